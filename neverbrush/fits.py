"""Arguments looked at: each is handed back in tuples, or Unfit() is raised."""

from neverbrush.errors import NoCrossing, Unfit
from neverbrush.kinds import are_numbers_all, as_row_of, is_number
from neverbrush.plans import Plan, SIDES, WAYS, city_from


def fit_plan(value):
    """The plan of the CITY value."""
    city = city_from(value)
    if city is None:
        raise Unfit()
    return Plan(city)


def fit_number(value):
    """The number value."""
    if not is_number(value):
        raise Unfit()
    return value


def fit_from(value, least):
    """The number value, from least."""
    if not is_number(value) or value < least:
        raise Unfit()
    return value


def fit_word(value, known):
    """The string value, one of the tuple known."""
    if value not in known:
        raise Unfit()
    return value


def fit_way(value):
    """The way value."""
    return fit_word(value, WAYS)


def fit_side(value):
    """The side value."""
    return fit_word(value, SIDES)


def fit_crossing(plan, number):
    """A number that is a crossing. Called behind all that may raise Unfit()."""
    if number < 0 or number >= plan.size:
        raise NoCrossing(number)
    return number


def is_crossing(plan, value):
    """Whether value, whatever it is, is a crossing."""
    return is_number(value) and 0 <= value < plan.size


def table_from(plan, value):
    """The TABLE in a tuple, None if value is none."""
    table = as_row_of(value, plan.size)
    return table if table is not None and are_numbers_all(table) else None


def fit_table(plan, value):
    """The TABLE value."""
    table = table_from(plan, value)
    if table is None:
        raise Unfit()
    return table


def walked(plan, first, moves):
    """Where moves lead from the crossing first: a crossing, None if just the last one leads out.

    False if something is no move, or stands behind a move that leads out.
    """
    at = first
    for move in moves:
        if at is None or move not in WAYS:
            return False
        at = plan.nexts[move][at]
    return at


def road_from(plan, value):
    """The ROAD in tuples, None if value is none."""
    road = as_row_of(value, 3)
    if road is None:
        return None
    side, first, moves = road
    if side not in SIDES or not is_crossing(plan, first):
        return None
    if plan.aheads[side][first] is not None or not isinstance(moves, str):
        return None
    return road if walked(plan, first, moves) is None else None


def fit_road(plan, value):
    """The ROAD value."""
    road = road_from(plan, value)
    if road is None:
        raise Unfit()
    return road


def stretch_from(plan, value):
    """The STRETCH in tuples, None if value is none."""
    stretch = as_row_of(value, 2)
    if stretch is None or not is_crossing(plan, stretch[0]) or not isinstance(stretch[1], str):
        return None
    return stretch if is_number(walked(plan, stretch[0], stretch[1])) else None


def fit_stretch(plan, value):
    """The STRETCH value."""
    stretch = stretch_from(plan, value)
    if stretch is None:
        raise Unfit()
    return stretch

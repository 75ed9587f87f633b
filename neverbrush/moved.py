"""Cities moved: sides exchanged, turned about, renamed; which cities are alike."""

from neverbrush.errors import CanNot, Unfit
from neverbrush.fits import fit_plan, fit_road, fit_stretch, fit_table, fit_word
from neverbrush.fulls import fit_lot
from neverbrush.kinds import are_numbers_all, as_row, is_rising
from neverbrush.likes import how_many_renamings, numbers_between
from neverbrush.pieces import crossings_along
from neverbrush.routes import passes_of

MOVES = ("sides", "about")


def other_way(way):
    """The way that is not way."""
    return "S" if way == "E" else "E"


def streets_renamed(streets, numbers):
    """The set of streets with the number that numbers has for each crossing, each street ascending."""
    return tuple(sorted([tuple(sorted([numbers[crossing] for crossing in street])) for street in streets]))


def exchanged_sides(city):
    """The CITY with east and south streets exchanged."""
    east, south = fit_plan(city).streets
    return (south, east)


def turned_about(city):
    """The CITY in which the last crossing is the first one, each street gone the other way."""
    plan = fit_plan(city)
    numbers = [plan.size - 1 - crossing for crossing in range(plan.size)]
    return tuple([streets_renamed(streets, numbers) for streets in plan.streets])


def moved_road(plan, road, way):
    """The ROAD of the CITY moved."""
    passes = passes_of(plan, road)
    if way == "sides":
        side, first, moves = road
        return ("N" if side == "W" else "W", first, "".join([other_way(move) for move in moves]))
    last, _, gone = passes[-1]
    moves = "".join(["E" if side == "W" else "S" for _, side, _ in reversed(passes)])
    return ("W" if gone == "E" else "N", plan.size - 1 - last, moves)


def road_moved(city, road, way):
    """The ROAD of the CITY moved that road is there."""
    plan = fit_plan(city)
    own = fit_road(plan, road)
    return moved_road(plan, own, fit_word(way, MOVES))


def stretch_moved(city, stretch, way):
    """The STRETCH of the CITY moved that stretch is there."""
    plan = fit_plan(city)
    first, moves = fit_stretch(plan, stretch)
    if fit_word(way, MOVES) == "sides":
        return (first, "".join([other_way(move) for move in moves]))
    last = crossings_along(plan, (first, moves))[-1]
    return (plan.size - 1 - last, moves[::-1])


def table_moved(city, table, way):
    """The TABLE of the CITY moved, with each crossing's own number."""
    plan = fit_plan(city)
    numbers = fit_table(plan, table)
    return numbers if fit_word(way, MOVES) == "sides" else tuple(reversed(numbers))


def lot_moved(city, lot, way):
    """The LOT of the CITY moved of the ROADS of lot."""
    plan = fit_plan(city)
    own = fit_lot(plan, lot)
    fit_word(way, MOVES)
    return tuple(sorted([moved_road(plan, road, way) for road in own]))


def are_each_once(numbers):
    """Whether numbers are the numbers from 0 below its length, each once."""
    return are_numbers_all(numbers) and sorted(numbers) == list(range(len(numbers)))


def numbers_from(plan, value):
    """The new numbers, rising along each street, in a tuple, None if value is none."""
    numbers = as_row(value)
    if numbers is None or len(numbers) != plan.size or not are_each_once(numbers):
        return None
    streets = plan.streets[0] + plan.streets[1]
    return numbers if all([is_rising([numbers[own] for own in street]) for street in streets]) else None


def city_renamed(plan, numbers):
    """The CITY with new numbers."""
    return tuple([streets_renamed(streets, numbers) for streets in plan.streets])


def renamed(city, numbers):
    """The CITY in which each crossing has its new number."""
    plan = fit_plan(city)
    own = numbers_from(plan, numbers)
    if own is None:
        raise Unfit()
    return city_renamed(plan, own)


def are_numbers(city, thing):
    """Whether thing are new numbers of city."""
    numbers = numbers_from(fit_plan(city), thing)
    return numbers is not None and numbers == thing


def renamed_back(numbers):
    """The numbers that lead back."""
    own = as_row(numbers)
    if own is None or not are_each_once(own):
        raise Unfit()
    back = [0] * len(own)
    for crossing, number in enumerate(own):
        back[number] = crossing
    return tuple(back)


def fit_numbers_between(city, other):
    """Numbers that rename city to other; None if there are none."""
    plan = fit_plan(city)
    return numbers_between(plan, fit_plan(other))


def are_alike(city, other):
    """Whether some numbers rename city to other."""
    return fit_numbers_between(city, other) is not None


def numbers_to(city, other):
    """Numbers that rename city to other; CanNot() if there are none."""
    numbers = fit_numbers_between(city, other)
    if numbers is None:
        raise CanNot()
    return numbers


def are_numbers_to(city, other, thing):
    """Whether thing are numbers that rename city to other."""
    plan, there = fit_plan(city), fit_plan(other)
    numbers = numbers_from(plan, thing)
    return numbers is not None and numbers == thing and city_renamed(plan, numbers) == there.streets


def how_many_selves(city):
    """How many numbers rename city to itself."""
    return how_many_renamings(fit_plan(city))

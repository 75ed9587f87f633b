"""How many: full lots told by number, by seams, by roads; full lots of rectangles."""

from neverbrush.errors import CanNot, Unfit
from neverbrush.fits import fit_number, fit_plan
from neverbrush.fulls import fit_full
from neverbrush.kinds import are_numbers_all, as_row
from neverbrush.ladders import all_full, ladder_of
from neverbrush.pieces import all_stretches
from neverbrush.routes import bent_road, how_many_bent, ways_on
from neverbrush.tableaux import how_many_tableaux, tableaux_by_falls

MOST_FIGURES = 30
MOST_WIDE = 30
MOST_WIDE_BY_SEAMS = 5


def by_seams(city):
    """The tuple of how many FULL LOTS have 0, 1, .., N SEAMS; TooMany() if they are not few."""
    plan = fit_plan(city)
    counts = [0] * (plan.size + 1)
    for steps in ladder_of(plan).values():
        counts[plan.size - len(steps)] += 1
    return tuple(counts)


def roads_by_lots(city):
    """The set of the pairs (road, many), many in how many FULL LOTS it stands; TooMany() if they are not few.

    Each bent ROAD stands in some FULL LOT, so these are few, too.
    """
    plan = fit_plan(city)
    lots, on = all_full(plan), ways_on(plan)
    many = {bent_road(plan, on, number): 0 for number in range(how_many_bent(plan))}
    for lot in lots:
        for road in lot:
            many[road] += 1
    return tuple([(road, many[road]) for road in sorted(list(many))])


def seams_by_lots(city):
    """The set of the pairs (stretch, many), many of how many FULL LOTS it is a SEAM; TooMany() if they are not few.

    Each step up by a STRETCH leads to another FULL LOT of which it is a SEAM.
    """
    plan = fit_plan(city)
    ladder = ladder_of(plan)
    many = {stretch: 0 for stretch in all_stretches(plan)}
    for steps in ladder.values():
        for stretch, _ in steps:
            many[stretch] += 1
    return tuple([(stretch, many[stretch]) for stretch in sorted(list(many))])


def numbered_lot(city, number):
    """The FULL LOT with this number; CanNot() if there is none, ahead TooMany() if they are not few."""
    plan = fit_plan(city)
    wanted = fit_number(number)
    lots = all_full(plan)
    if wanted < 0 or wanted >= len(lots):
        raise CanNot()
    return lots[wanted]


def lot_number(city, lot):
    """The number of a FULL LOT; TooMany() if they are not few."""
    plan = fit_plan(city)
    own = fit_full(plan, lot)
    return all_full(plan).index(own)


def drawn(city, figures):
    """The FULL LOT that figures draw, each as often as each other one; None if they draw none."""
    plan = fit_plan(city)
    row = as_row(figures)
    if row is None or len(row) > MOST_FIGURES or not are_numbers_all(row):
        raise Unfit()
    if any([figure < 0 or figure > 9 for figure in row]):
        raise Unfit()
    lots = all_full(plan)
    number, all_numbers = 0, 1
    for figure in row:
        number, all_numbers = 10 * number + figure, 10 * all_numbers
    times = all_numbers // len(lots)
    if times == 0 or number // times >= len(lots):
        return None
    return lots[number // times]


def fit_wide(value, most):
    """The number value, from 1 to most."""
    if fit_number(value) < 1 or value > most:
        raise Unfit()
    return value


def rectangle_lots(high, wide):
    """How many FULL LOTS the rectangle has: as many as there are tableaux."""
    fit_wide(high, MOST_WIDE)
    fit_wide(wide, MOST_WIDE)
    return how_many_tableaux(high + 1, wide + 1)


def rectangle_seams(high, wide):
    """How many FULL LOTS of the rectangle have 0, 1, .., N SEAMS: with k as many as there are tableaux of high + k."""
    fit_wide(high, MOST_WIDE_BY_SEAMS)
    fit_wide(wide, MOST_WIDE_BY_SEAMS)
    counts = tableaux_by_falls(high + 1, wide + 1)
    return tuple([counts.get(high + number, 0) for number in range(high * wide + 1)])

"""Full lots with told roads, with told seams; what is seen of a full lot through a window."""

from neverbrush.errors import NoCrossing, NoStretch, TooMany, Unfit
from neverbrush.fits import fit_plan, is_crossing
from neverbrush.fulls import finished_from, fit_full, fit_lot, inner_of
from neverbrush.joins import fit_stretches, least_with_under
from neverbrush.kinds import are_numbers_all, as_row, is_rising
from neverbrush.ladders import MOST_LOTS, ladder_with
from neverbrush.overs import ones_under
from neverbrush.rows import fit_rows
from neverbrush.seams import fit_fitting, ones_joining
from neverbrush.windows import Window


def told(city, lot):
    """The pair of the least and the greatest FULL LOT that have all ROADS of lot."""
    plan = fit_plan(city)
    table = inner_of(plan, fit_lot(plan, lot))
    return (finished_from(plan, table, 1), finished_from(plan, table, -1))


def fit_told(city, lot):
    """By FULL LOT that has all ROADS of lot its steps up among these; TooMany() if they are not few."""
    plan = fit_plan(city)
    return ladder_with(plan, fit_lot(plan, lot))


def told_lots(city, lot):
    """The ascending list of all FULL LOTS that have all ROADS of lot; TooMany() if they are not few."""
    return sorted(list(fit_told(city, lot)))


def how_many_told(city, lot):
    """How many FULL LOTS have all ROADS of lot; TooMany() if they are not few."""
    return len(fit_told(city, lot))


def let_go(city, lot, stretches):
    """The LOT of the ROADS of lot whose STRETCH is not in stretches; NoStretch(stretch) for the least of no ROAD."""
    rows = fit_rows(city, lot)
    gone = fit_stretches(rows.plan, stretches)
    known = [stretch for stretch, _ in rows.forms]
    for stretch in gone:
        if stretch not in known:
            raise NoStretch(stretch)
    return tuple([road for road, stretch in zip(rows.lot, known) if stretch not in gone])


def sets_with(plan, stretches):
    """The list of all sets that fit and have all of stretches, which fit; TooMany() if they are not few.

    Each part of a set that fits fits, and each STRETCH that may be put to it makes one more.
    """
    others = ones_joining(plan, stretches)
    apart = numbers_apart(plan, others)
    found, row = [], [(stretches, list(range(len(others))))]
    while row:
        own, numbers = row.pop()
        found.append(own)
        if len(found) + len(row) + len(numbers) > MOST_LOTS:
            raise TooMany()
        for place, number in enumerate(numbers):
            left = [later for later in numbers[place + 1:] if later not in apart[number]]
            row.append((own + (others[number],), left))
    return [tuple(sorted(own)) for own in found]


def numbers_apart(plan, stretches):
    """By number of a STRETCH a dict of True for the numbers of those that do not fit with it."""
    under = ones_under(plan, stretches)
    apart = [{other: True for other in row} for row in under]
    for number, row in enumerate(under):
        for other in row:
            apart[other][number] = True
    return apart


def with_seams(city, stretches):
    """The ascending list of all FULL LOTS whose SEAMS have all of stretches; CanNot() if these do not fit.

    TooMany() behind it if the STRETCHES of city, or these FULL LOTS, are not few.
    """
    plan = fit_plan(city)
    sets = sets_with(plan, fit_fitting(plan, stretches))
    return sorted([least_with_under(plan, own) for own in sets])


def least_above(city, stretches):
    """The least FULL LOT whose UNDER has all of stretches."""
    plan = fit_plan(city)
    return least_with_under(plan, fit_stretches(plan, stretches))


def fit_numbers(value):
    """The set value of numbers, not ()."""
    row = as_row(value)
    if not row or not are_numbers_all(row) or not is_rising(row):
        raise Unfit()
    return row


def window_at(plan, numbers):
    """The WINDOW at a set of numbers; NoCrossing(crossing) for the least one that is none."""
    for number in numbers:
        if not is_crossing(plan, number):
            raise NoCrossing(number)
    return Window(plan, numbers, None)


def window(city, crossings):
    """The CITY of just these crossings of city."""
    plan = fit_plan(city)
    return window_at(plan, fit_numbers(crossings)).left.streets


def seen(city, lot, crossings):
    """The set of the bent ROADS of the WINDOW along which some ROAD of lot goes."""
    plan = fit_plan(city)
    own = fit_full(plan, lot)
    return window_at(plan, fit_numbers(crossings)).lot_left(own)

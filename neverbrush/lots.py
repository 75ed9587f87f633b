"""Lots: roads no two of which brush; full ones, to which no other can be put."""

from math import comb

from neverbrush.errors import CanNot, TooMany, Unfit
from neverbrush.fits import fit_plan, fit_road, fit_word, road_from
from neverbrush.fulls import finished_from, fit_lot, full_from, hooks_of, inner_of, lot_from
from neverbrush.kinds import as_row, is_rising
from neverbrush.ladders import all_full, ladder_of
from neverbrush.pieces import high_of, is_brushing, low_of
from neverbrush.routes import MOST_LISTED, bent_road, how_many_bent, is_turning, passes_of, ways_on


def is_lot(city, thing):
    """Whether thing is a LOT of city."""
    lot = lot_from(fit_plan(city), thing)
    return lot is not None and lot == thing


def is_full(city, thing):
    """Whether thing is a FULL LOT of city."""
    lot = full_from(fit_plan(city), thing)
    return lot is not None and lot == thing


def fit_bent_set(plan, value):
    """The set of bent ROADS value."""
    rows = as_row(value)
    if rows is None:
        raise Unfit()
    found = [road_from(plan, own) for own in rows]
    if any([road is None or not is_turning(road) for road in found]) or not is_rising(found):
        raise Unfit()
    return found


def brushing_pair(city, roads):
    """The least pair (road, other) of roads, road going low, other high along some STRETCH; CanNot() if none is."""
    plan = fit_plan(city)
    own = fit_bent_set(plan, roads)
    least_high = {}
    for road in reversed(own):
        for stretch in high_of(passes_of(plan, road)):
            least_high[stretch] = road
    for road in own:
        others = [least_high[stretch] for stretch in low_of(passes_of(plan, road)) if stretch in least_high]
        if others:
            return (road, min(others))
    raise CanNot()


def barred_on(plan, lot, road):
    """The set of the ROADS of lot that brush road."""
    rows = passes_of(plan, road)
    return tuple([own for own in lot if is_brushing(passes_of(plan, own), rows)])


def barred_by(city, lot, road):
    """The set of the ROADS of lot that brush road."""
    plan = fit_plan(city)
    own = fit_lot(plan, lot)
    return barred_on(plan, own, fit_road(plan, road))


def put_to(city, lot, road):
    """lot with road, lot itself if it has it; CanNot() if road is straight or some ROAD of lot brushes it."""
    plan = fit_plan(city)
    own = fit_lot(plan, lot)
    more = fit_road(plan, road)
    if more in own:
        return own
    if not is_turning(more) or barred_on(plan, own, more):
        raise CanNot()
    return tuple(sorted(own + (more,)))


def goes_with(city, lot):
    """The set of the bent ROADS not in lot that no ROAD of it brushes; TooMany() if the bent ROADS are not few."""
    plan = fit_plan(city)
    own = fit_lot(plan, lot)
    many = how_many_bent(plan)
    if many > MOST_LISTED:
        raise TooMany()
    on, passes = ways_on(plan), [passes_of(plan, road) for road in own]
    found = []
    for number in range(many):
        road = bent_road(plan, on, number)
        rows = passes_of(plan, road)
        if road not in own and not is_barred(passes, rows):
            found.append(road)
    return tuple(found)


def is_barred(passes, rows):
    """Whether a ROAD with one of passes brushes the ROAD with the passes rows."""
    for own in passes:
        if is_brushing(own, rows):
            return True
    return False


def least_lot(city):
    """The FULL LOT of all hooks."""
    return hooks_of(fit_plan(city), "S")


def greatest_lot(city):
    """The FULL LOT of all hooks back."""
    return hooks_of(fit_plan(city), "E")


def finished(city, lot, word):
    """The FULL LOT that has lot and all others of which are low, or high, ones of it."""
    plan = fit_plan(city)
    own = fit_lot(plan, lot)
    more = 1 if fit_word(word, ("low", "high")) == "low" else -1
    return finished_from(plan, inner_of(plan, own), more)


def full_lots(city):
    """The set of all FULL LOTS; TooMany() if they are not few."""
    return tuple(all_full(fit_plan(city)))


def how_many_full(city):
    """How many FULL LOTS there are; TooMany() if they are not few."""
    return len(ladder_of(fit_plan(city)))


def lots_by_size(city):
    """The tuple of how many LOTS have 0, 1, .., N ROADS; TooMany() if the FULL LOTS are not few.

    Each LOT is finished in one way by low ROADS, so it comes once from a FULL LOT if it keeps all high ones.
    """
    plan = fit_plan(city)
    low = [len(steps) for steps in ladder_of(plan).values()]
    size = plan.size
    return tuple([sum([comb(many, size - number) for many in low]) for number in range(size + 1)])

"""LOTS looked at, and FULL LOTS worked out on a plan."""

from neverbrush.errors import Unfit
from neverbrush.fits import fit_plan
from neverbrush.flows import bag_from, bag_of, table_by
from neverbrush.kinds import as_row
from neverbrush.plans import side_behind
from neverbrush.routes import turning_once


def roads_in(bag):
    """The LOT of the ROADS of a BAG."""
    return tuple([road for road, _ in bag])


def each_once(lot):
    """The BAG that has each ROAD of lot once."""
    return [(road, 1) for road in lot]


def lot_from(plan, value):
    """The LOT in tuples, None if value is none.

    Roads are a LOT exactly if they, each once, are a BAG. No LOT has more ROADS than the city has
    crossings, so longer rows need no look at what stands in them.
    """
    rows = as_row(value)
    if rows is None or len(rows) > plan.size:
        return None
    bag = bag_from(plan, each_once(rows))
    return None if bag is None else roads_in(bag)


def full_from(plan, value):
    """The FULL LOT in tuples, None if value is none: a LOT is one exactly if it has a ROAD for each crossing."""
    lot = lot_from(plan, value)
    return lot if lot is not None and len(lot) == plan.size else None


def fit_lot(plan, value):
    """The LOT value."""
    lot = lot_from(plan, value)
    if lot is None:
        raise Unfit()
    return lot


def fit_full(plan, value):
    """The FULL LOT value."""
    lot = full_from(plan, value)
    if lot is None:
        raise Unfit()
    return lot


def fit_two_full(city, lot, other):
    """The plan of the CITY city and the two FULL LOTS of it."""
    plan = fit_plan(city)
    own = fit_full(plan, lot)
    return (plan, own, fit_full(plan, other))


def inner_of(plan, lot):
    """The TURNS of the ROADS of lot added up."""
    return table_by(plan, each_once(lot))


def finished_from(plan, table, more):
    """The FULL LOT with all ROADS of the BAG of table, all others of which are low if more is 1, high if it is -1."""
    times = plan.size + 1
    return roads_in(bag_of(plan, [times * number + more for number in table]))


def hooks_of(plan, way):
    """The FULL LOT of the ROADS that turn at one crossing alone: the hooks by "S", the hooks back by "E"."""
    side = side_behind("E" if way == "S" else "S")
    return tuple(sorted([turning_once(plan, crossing, side) for crossing in range(plan.size)]))


def with_other(lot, road, other):
    """The set of the ROADS of lot, with other in the place of road."""
    return tuple(sorted([own for own in lot if own != road] + [other]))

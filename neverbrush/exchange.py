"""Exchanges: each road of a full lot for just one other."""

from neverbrush.errors import CanNot, NoRoad, Unfit
from neverbrush.fits import fit_plan, fit_road, fit_stretch
from neverbrush.flows import bag_of, table_by
from neverbrush.fulls import each_once, finished_from, fit_full, fit_lot, fit_two_full, inner_of, lot_from
from neverbrush.kinds import is_just
from neverbrush.pieces import crossings_along, going_along
from neverbrush.routes import passes_of
from neverbrush.rows import Rows, fit_rows


def fit_place(city, lot, road):
    """The pair of the rows of the FULL LOT lot and of the number of road in it; NoRoad(road) if it has none."""
    plan = fit_plan(city)
    own = fit_full(plan, lot)
    wanted = fit_road(plan, road)
    if wanted not in own:
        raise NoRoad(wanted)
    return (Rows(plan, own), own.index(wanted))


def newcomer(city, lot, road):
    """The newcomer for road."""
    rows, number = fit_place(city, lot, road)
    return rows.newcomer(number)


def exchanged(city, lot, road):
    """The FULL LOT with the newcomer in the place of road."""
    rows, number = fit_place(city, lot, road)
    return rows.exchanged(number)


def exchange_of(city, lot, road):
    """The EXCHANGE of road in lot."""
    rows, number = fit_place(city, lot, road)
    return rows.exchange(number)


def exchanges(city, lot):
    """The list of the EXCHANGES of the ROADS of lot, one by one."""
    rows = fit_rows(city, lot)
    return [rows.exchange(number) for number in range(len(rows.lot))]


def is_exchange(city, lot, thing):
    """Whether thing is one of the EXCHANGES of lot."""
    return any([is_just(thing, own) for own in exchanges(city, lot)])


def exchange_to(city, lot, other):
    """The EXCHANGE by which lot becomes other; CanNot() if there is none."""
    plan, own, there = fit_two_full(city, lot, other)
    gone = [number for number in range(plan.size) if own[number] not in there]
    if len(gone) != 1:
        raise CanNot()
    return Rows(plan, own).exchange(gone[0])


def resolved(city, road, other, stretch):
    """The pair of the ROADS that go as one of road and other up to the end of stretch, then on as the other one."""
    plan = fit_plan(city)
    own, also = fit_road(plan, road), fit_road(plan, other)
    part = fit_stretch(plan, stretch)
    rows, others = passes_of(plan, own), passes_of(plan, also)
    if going_along(rows, part) != "low" or going_along(others, part) != "high":
        raise CanNot()
    last = crossings_along(plan, part)[-1]
    place, place_there = place_of(rows, last), place_of(others, last)
    return ((own[0], own[1], own[2][:place] + also[2][place_there:]),
            (also[0], also[1], also[2][:place_there] + own[2][place:]))


def place_of(passes, crossing):
    """The number of the pass through crossing."""
    return [own[0] for own in passes].index(crossing)


def wall_bag(city, lot, road):
    """The BAG of the TURNS of road and its newcomer added up."""
    rows, number = fit_place(city, lot, road)
    both = sorted([rows.lot[number], rows.newcomer(number)])
    return bag_of(rows.plan, table_by(rows.plan, each_once(both)))


def is_wall(city, thing):
    """Whether thing is a LOT of all ROADS but one of a FULL LOT."""
    plan = fit_plan(city)
    lot = lot_from(plan, thing)
    return lot is not None and len(lot) == plan.size - 1 and lot == thing


def sides(city, lot):
    """The pair of the two FULL LOTS that have lot, that which is led up to the other one ahead."""
    plan = fit_plan(city)
    own = fit_lot(plan, lot)
    if len(own) != plan.size - 1:
        raise Unfit()
    table = inner_of(plan, own)
    return (finished_from(plan, table, 1), finished_from(plan, table, -1))

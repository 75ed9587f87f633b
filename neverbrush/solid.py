"""One solid: heights of roads, corners of full lots, and what tables are worth at prices."""

from neverbrush.brushing import how_often_brushed
from neverbrush.errors import CanNot, TooMany
from neverbrush.exchange import fit_place
from neverbrush.fits import fit_plan, fit_road, fit_table, table_from
from neverbrush.flows import bag_of
from neverbrush.fulls import finished_from, fit_full, full_from
from neverbrush.pieces import crossings_along
from neverbrush.routes import MOST_LISTED, bent_road, how_many_bent, passes_of, turns_of, ways_on
from neverbrush.routes import ways_to
from neverbrush.rows import Rows


def heights_of(plan, roads):
    """The list of the heights of roads."""
    to, on = ways_to(plan), ways_on(plan)
    return [how_often_brushed(passes_of(plan, road), to, on) for road in roads]


def height(city, road):
    """Along how many STRETCHES each bent ROAD brushes road, added up."""
    plan = fit_plan(city)
    return heights_of(plan, [fit_road(plan, road)])[0]


def corner_of(rows):
    """The CORNER of the FULL LOT of rows.

    By its FORM a ROAD stands in a TABLE sign times the sum along stretch often; so the TABLE that is sign along
    stretch is worth 1 at the TURNS of this ROAD, nothing at those of the others.
    """
    table = [0] * rows.plan.size
    for own, (stretch, sign) in zip(heights_of(rows.plan, rows.lot), rows.forms):
        for crossing in crossings_along(rows.plan, stretch):
            table[crossing] += sign * own
    return tuple(table)


def corner(city, lot):
    """The CORNER of lot."""
    plan = fit_plan(city)
    return corner_of(Rows(plan, fit_full(plan, lot)))


def worth_at(table, prices):
    """What table is worth at prices."""
    return sum([number * price for number, price in zip(table, prices)])


def worth(city, table, prices):
    """What table is worth at prices."""
    plan = fit_plan(city)
    own = fit_table(plan, table)
    return worth_at(own, fit_table(plan, prices))


def best_at(plan, prices):
    """The greatest worth of a CORNER at prices: the heights of the ROADS of the BAG, each so often."""
    bag = bag_of(plan, prices)
    heights = heights_of(plan, [road for road, _ in bag])
    return sum([many * own for (_, many), own in zip(bag, heights)])


def best_worth(city, prices):
    """The greatest worth of a CORNER at prices."""
    plan = fit_plan(city)
    return best_at(plan, fit_table(plan, prices))


def is_best(city, lot, prices):
    """Whether the CORNER of lot is worth the most at prices."""
    plan = fit_plan(city)
    own = fit_full(plan, lot)
    numbers = fit_table(plan, prices)
    return worth_at(corner_of(Rows(plan, own)), numbers) == best_at(plan, numbers)


def best_lot(city, prices):
    """The FULL LOT, below all others of them, whose CORNER is worth the most at prices.

    They are those that have all ROADS of the BAG of prices; of the least one the others are low.
    """
    plan = fit_plan(city)
    return finished_from(plan, fit_table(plan, prices), 1)


def edge(city, lot, road):
    """The pair of the STRETCH of road in lot and of what the CORNERS differ by on it if road is exchanged."""
    rows, number = fit_place(city, lot, road)
    stretch, _ = rows.forms[number]
    here, there = corner_of(rows), corner_of(Rows(rows.plan, rows.exchanged(number)))
    return (stretch, abs(here[stretch[0]] - there[stretch[0]]))


def lot_by_corner(plan, table):
    """The FULL LOT whose CORNER table is, None if it is none's, or None; TooMany() if the bent ROADS are not few.

    By the TURNS of a bent ROAD a CORNER is worth its height exactly if the ROAD is of its FULL LOT. So if the
    ROADS for which table is worth this are a FULL LOT, its CORNER is table; else table is none.
    """
    many = how_many_bent(plan)
    if many > MOST_LISTED:
        raise TooMany()
    if table is None:
        return None
    on = ways_on(plan)
    roads = [bent_road(plan, on, number) for number in range(many)]
    heights = heights_of(plan, roads)
    return full_from(plan, [road for road, own in zip(roads, heights)
                            if worth_at(table, turns_of(plan, road)) == own])


def is_corner(city, thing):
    """Whether thing is the CORNER of some FULL LOT."""
    plan = fit_plan(city)
    table = table_from(plan, thing)
    return lot_by_corner(plan, table) is not None and table == thing


def lot_at(city, table):
    """The FULL LOT whose CORNER table is; CanNot() if it is none's."""
    plan = fit_plan(city)
    lot = lot_by_corner(plan, fit_table(plan, table))
    if lot is None:
        raise CanNot()
    return lot

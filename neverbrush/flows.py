"""The BAG of a TABLE, told by one walk through the city, crossing by crossing.

On each street as many ROADS begin as are needed that none of its pieces has fewer than none. The row at
a crossing are those that come from W, behind them those from N; the first ones go E, the others S.
"""

from neverbrush.errors import Unfit
from neverbrush.fits import fit_table, road_from
from neverbrush.kinds import as_row, as_row_of, is_number
from neverbrush.plans import SIDES, WAYS, side_behind
from neverbrush.routes import turns_of


def lowest_start(steps):
    """The least number from 0 that, with steps added one by one, never falls below 0."""
    level, lowest = 0, 0
    for step in steps:
        level += step
        lowest = min(lowest, level)
    return -lowest


def street_flows(plan, table):
    """By side, crossing by crossing: how many ROADS of the BAG of table come there from side."""
    come = {side: [0] * plan.size for side in SIDES}
    for side, streets, sign in (("W", plan.streets[0], -1), ("N", plan.streets[1], 1)):
        for street in streets:
            many = lowest_start([sign * table[crossing] for crossing in street])
            for crossing in street:
                come[side][crossing] = many
                many += sign * table[crossing]
    return come


def pieces_at(plan, table):
    """Crossing by crossing how many ROADS come from W, come from N, go E, go S."""
    come = street_flows(plan, table)
    return [(come["W"][k], come["N"][k], come["W"][k] - table[k], come["N"][k] + table[k])
            for k in range(plan.size)]


def bag_of(plan, table):
    """The BAG of table."""
    pieces = pieces_at(plan, table)
    coming = {side: [None] * plan.size for side in SIDES}
    done = []
    for crossing in range(plan.size):
        row = []
        for side, many in (("W", pieces[crossing][0]), ("N", pieces[crossing][1])):
            if plan.aheads[side][crossing] is None:
                coming[side][crossing] = [((side, crossing, ""), many)]
            row = row + coming[side][crossing]
        for way, part in zip(WAYS, row_split(row, pieces[crossing][2])):
            gone = [((begun, first, moves + way), often) for (begun, first, moves), often in part]
            there = plan.nexts[way][crossing]
            if there is None:
                done.extend(gone)
            else:
                coming[side_behind(way)][there] = gone
    return tuple(sorted(done))


def row_split(row, many):
    """The pair of the first many of a row of pairs (road, many), and of the others; none stands there 0 times."""
    first, others, left = [], [], many
    for road, often in row:
        taken = min(often, left)
        left -= taken
        if taken > 0:
            first.append((road, taken))
        if often > taken:
            others.append((road, often - taken))
    return (first, others)


def table_by(plan, bag):
    """The TABLE of bag, pairs (road, many)."""
    table = [0] * plan.size
    for road, many in bag:
        turns = turns_of(plan, road)
        table = [table[k] + many * turns[k] for k in range(plan.size)]
    return tuple(table)


def bag_pair_from(plan, value):
    """The pair (road, many) in tuples, a ROAD and a number, None if value is none."""
    pair = as_row_of(value, 2)
    if pair is None or not is_number(pair[1]):
        return None
    road = road_from(plan, pair[0])
    return None if road is None else (road, pair[1])


def bag_from(plan, value):
    """The BAG in tuples, None if value is none.

    Each TABLE has just one BAG, so pairs are one exactly if they are that of their TABLE. No BAG has
    more pairs than the city has crossings, so longer rows need no look at what stands in them.
    """
    rows = as_row(value)
    if rows is None or len(rows) > plan.size:
        return None
    pairs = [bag_pair_from(plan, own) for own in rows]
    if any([pair is None for pair in pairs]):
        return None
    found = tuple(pairs)
    return found if bag_of(plan, table_by(plan, found)) == found else None


def fit_bag(plan, value):
    """The BAG value."""
    bag = bag_from(plan, value)
    if bag is None:
        raise Unfit()
    return bag


def fit_bag_of(plan, value):
    """The BAG of the TABLE value."""
    return bag_of(plan, fit_table(plan, value))

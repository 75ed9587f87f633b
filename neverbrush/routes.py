"""ROADS on a plan, looked at already: their passes, their TURNS, how many there are."""

from neverbrush.plans import SIDES, WAYS, beginnings_on, side_behind, straight_on

MOST_LISTED = 2000


def passes_of(plan, road):
    """The list of the triples (crossing, side, way) of road."""
    side, at, moves = road
    rows = []
    for way in moves:
        rows.append((at, side, way))
        at, side = plan.nexts[way][at], side_behind(way)
    return rows


def turn_of(side, way):
    """The number that a ROAD adds at a crossing to which it comes from side and which it leaves by way."""
    if way == straight_on(side):
        return 0
    return 1 if side == "W" else -1


def turns_of(plan, road):
    """The TURNS of road."""
    table = [0] * plan.size
    for crossing, side, way in passes_of(plan, road):
        table[crossing] = turn_of(side, way)
    return tuple(table)


def is_turning(road):
    """Whether road is bent."""
    side, _, moves = road
    return any([way != straight_on(side) for way in moves])


def come_straight(plan, side, crossing):
    """The pair of where one begins who comes straight on from side to crossing, and of the moves up to there."""
    first, moves, way = crossing, "", straight_on(side)
    while plan.aheads[side][first] is not None:
        first, moves = plan.aheads[side][first], moves + way
    return (first, moves)


def gone_straight(plan, way, crossing):
    """The moves of one who leaves crossing by way and goes straight on, out of the city."""
    moves, at = way, plan.nexts[way][crossing]
    while at is not None:
        moves, at = moves + way, plan.nexts[way][at]
    return moves


def straight_from(plan, side, first):
    """The straight ROAD that begins from side at first."""
    return (side, first, gone_straight(plan, straight_on(side), first))


def turning_once(plan, crossing, side):
    """The ROAD that comes from side to crossing and turns there alone."""
    first, moves = come_straight(plan, side, crossing)
    return (side, first, moves + gone_straight(plan, "S" if side == "W" else "E", crossing))


def ways_on(plan):
    """By way, crossing by crossing: in how many ways one goes on by way, up to an end."""
    many = {way: [1] * plan.size for way in WAYS}
    for crossing in reversed(range(plan.size)):
        for way in WAYS:
            there = plan.nexts[way][crossing]
            if there is not None:
                many[way][crossing] = many["E"][there] + many["S"][there]
    return many


def ways_to(plan):
    """By side, crossing by crossing: in how many ways one comes there from side, from a beginning."""
    many = {side: [1] * plan.size for side in SIDES}
    for crossing in range(plan.size):
        for side in SIDES:
            there = plan.aheads[side][crossing]
            if there is not None:
                many[side][crossing] = many["W"][there] + many["N"][there]
    return many


def how_many_bent(plan):
    """How many ROADS are bent: of those with one beginning all but one are."""
    on = ways_on(plan)
    return sum([on["E"][first] + on["S"][first] - 1 for _, first in beginnings_on(plan)])


def bent_by(on, way, at, onward, is_straight):
    """How many bent ROADS go on from at by way; of all ways to go on just the straight one may be none."""
    if is_straight and way == onward:
        return on[way][at] - 1
    return on[way][at]


def bent_road(plan, on, number):
    """The bent ROAD of this number; None if there is none. on are the ways_on of plan."""
    if number < 0:
        return None
    left = number
    for side, first in beginnings_on(plan):
        many = on["E"][first] + on["S"][first] - 1
        if left < many:
            return bent_from(plan, on, (side, first), left)
        left -= many
    return None


def bent_from(plan, on, beginning, number):
    """The bent ROAD of this number of those with this beginning."""
    side, at = beginning
    onward, is_straight, moves, left = straight_on(side), True, "", number
    while at is not None:
        many = bent_by(on, "E", at, onward, is_straight)
        way = "E" if left < many else "S"
        if way == "S":
            left -= many
        is_straight = is_straight and way == onward
        moves, at = moves + way, plan.nexts[way][at]
    return (beginning[0], beginning[1], moves)


def number_of_bent(plan, on, road):
    """The number of a bent ROAD."""
    beginning, onward, is_straight, number = road[:2], straight_on(road[0]), True, 0
    for side, first in beginnings_on(plan):
        if (side, first) < beginning:
            number += on["E"][first] + on["S"][first] - 1
    for crossing, _, way in passes_of(plan, road):
        if way == "S":
            number += bent_by(on, "E", crossing, onward, is_straight)
        is_straight = is_straight and way == onward
    return number

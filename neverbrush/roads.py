"""Roads of a city: told, listed, counted, numbered."""

from neverbrush.errors import CanNot, TooMany
from neverbrush.fits import fit_crossing, fit_number, fit_plan, fit_road, fit_table, road_from
from neverbrush.plans import SIDES, beginnings_on, side_behind, straight_on
from neverbrush.routes import MOST_LISTED, bent_road, come_straight, how_many_bent, is_turning
from neverbrush.routes import number_of_bent, passes_of, straight_from, turns_of, ways_on, ways_to


def is_road(city, thing):
    """Whether thing is a ROAD of city."""
    road = road_from(fit_plan(city), thing)
    return road is not None and road == thing


def is_bent(city, road):
    """Whether road turns somewhere."""
    return is_turning(fit_road(fit_plan(city), road))


def passes(city, road):
    """The list of the triples (crossing, side, way) by which road goes through the crossings."""
    plan = fit_plan(city)
    return passes_of(plan, fit_road(plan, road))


def turns(city, road):
    """The TURNS of road."""
    plan = fit_plan(city)
    return turns_of(plan, fit_road(plan, road))


def road_of(city, table):
    """The bent ROAD with these TURNS; CanNot() if there is none."""
    plan = fit_plan(city)
    numbers = fit_table(plan, table)
    bends = [crossing for crossing in range(plan.size) if numbers[crossing] != 0]
    if not bends:
        raise CanNot()
    road = road_by(plan, numbers, bends[0])
    if turns_of(plan, road) != numbers:
        raise CanNot()
    return road


def road_by(plan, table, bend):
    """The ROAD that first turns at bend, then wherever table is not 0."""
    side = "W" if table[bend] > 0 else "N"
    first, _ = come_straight(plan, side, bend)
    at, come, moves = first, side, ""
    while at is not None:
        way = straight_on(come)
        if table[at] != 0:
            way = "S" if way == "E" else "E"
        moves, at, come = moves + way, plan.nexts[way][at], side_behind(way)
    return (side, first, moves)


def behind(city, road):
    """The pair of the move by which road leaves city and the crossing where it does."""
    plan = fit_plan(city)
    crossing, _, way = passes_of(plan, fit_road(plan, road))[-1]
    return (way, crossing)


def roads(city):
    """The ascending list of the bent ROADS; TooMany() if there are more than are listed."""
    plan = fit_plan(city)
    many = how_many_bent(plan)
    if many > MOST_LISTED:
        raise TooMany()
    on = ways_on(plan)
    return [bent_road(plan, on, number) for number in range(many)]


def straight_roads(city):
    """The ascending list of the straight ROADS."""
    plan = fit_plan(city)
    return [straight_from(plan, side, first) for side, first in beginnings_on(plan)]


def how_many_roads(city):
    """How many ROADS are bent."""
    return how_many_bent(fit_plan(city))


def by_bends(city):
    """The tuple of how many ROADS turn 0, 1, 2, .. times."""
    plan = fit_plan(city)
    rows = {side: [None] * plan.size for side in SIDES}
    for crossing in reversed(range(plan.size)):
        east, south = [bends_behind(plan, rows, crossing, way) for way in ("E", "S")]
        rows["W"][crossing] = added(east, [0] + south)
        rows["N"][crossing] = added(south, [0] + east)
    total = []
    for side, first in beginnings_on(plan):
        total = added(total, rows[side][first])
    return tuple(total)


def bends_behind(plan, rows, crossing, way):
    """The list of how many ways there are, left by way, that turn 0, 1, 2, .. times from then on."""
    there = plan.nexts[way][crossing]
    return [1] if there is None else rows[side_behind(way)][there]


def added(row, other):
    """Two lists added up, place by place; what lacks is 0."""
    length = max(len(row), len(other))
    return [sum([own[k] for own in (row, other) if k < len(own)]) for k in range(length)]


def road_at(city, number):
    """The bent ROAD of this number, as they ascend; CanNot() if there is none."""
    plan = fit_plan(city)
    road = bent_road(plan, ways_on(plan), fit_number(number))
    if road is None:
        raise CanNot()
    return road


def road_number(city, road):
    """The number of a bent ROAD; CanNot() if road is straight."""
    plan = fit_plan(city)
    own = fit_road(plan, road)
    if not is_turning(own):
        raise CanNot()
    return number_of_bent(plan, ways_on(plan), own)


def through(city, crossing):
    """How many ROADS go at crossing from N to E, from N to S, from W to E, from W to S."""
    plan = fit_plan(city)
    here = fit_crossing(plan, fit_number(crossing))
    to, on = ways_to(plan), ways_on(plan)
    return tuple([to[side][here] * on[way][here] for side in ("N", "W") for way in ("E", "S")])


def longest(city):
    """To how many crossings a ROAD comes at the most."""
    plan = fit_plan(city)
    most = [1] * plan.size
    for crossing in reversed(range(plan.size)):
        for way in ("E", "S"):
            there = plan.nexts[way][crossing]
            if there is not None:
                most[crossing] = max(most[crossing], 1 + most[there])
    return max(most)

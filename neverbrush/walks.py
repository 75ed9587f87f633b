"""Walks: straight from table to table, by steps from bag to bag, by exchanges from full lot to full lot."""

from math import gcd

from neverbrush.errors import TooMany, Unfit
from neverbrush.fits import fit_crossing, fit_number, fit_plan, fit_table
from neverbrush.flows import bag_of, fit_bag, table_by
from neverbrush.fulls import fit_full, fit_two_full, roads_in
from neverbrush.kinds import are_numbers_all, as_row_of, is_just
from neverbrush.rows import Rows

MOST_MOMENTS = 2000
MOST_CROSSINGS = 5


def table_then(table, other, moment):
    """q times the TABLE at the moment (p, q)."""
    p, q = moment
    return [(q - p) * number + p * more for number, more in zip(table, other)]


def step_from(plan, here, step):
    """The LOT of the TABLE here, the LOT right behind it, going by step, and when this is left, None if never.

    When is told as a pair (number, divisor), counted in steps. Each count of a ROAD changes by less than
    times, so times here and step together have just the ROADS that stand right behind here, and what each
    of them has more than times its count here is how its count changes in a step.
    """
    times = 1 + sum([abs(number) for number in step])
    own = bag_of(plan, here)
    counts = {road: many for road, many in own}
    behind = bag_of(plan, [times * number + more for number, more in zip(here, step)])
    left = None
    for road, many in behind:
        count = counts.get(road, 0)
        falling = times * count - many
        if falling > 0 and (left is None or count * left[1] < left[0] * falling):
            left = (count, falling)
    return (roads_in(own), roads_in(behind), left)


def walk(plan, table, other):
    """The list of the triples (moment, LOT then, LOT right behind), the first moment and those of a change.

    TooMany() if there are more changes than are listed.
    """
    step = [more - number for number, more in zip(table, other)]
    stops, moment = [], (0, 1)
    while moment is not None:
        if len(stops) > MOST_MOMENTS:
            raise TooMany()
        lot, behind, left = step_from(plan, table_then(table, other, moment), step)
        stops.append((moment, lot, behind))
        moment = None if left is None else moment_behind(moment, left)
    return stops


def moment_behind(moment, left):
    """The moment at which the LOT right behind moment is left; None if this is not ahead of the last one.

    left counts in steps for the TABLE at moment, which is q times what stands there.
    """
    p, q = moment
    above, below = p * left[1] + left[0], q * left[1]
    if above >= below:
        return None
    common = gcd(above, below)
    return (above // common, below // common)


def fit_walk(city, table, other):
    """The plan and the two TABLES."""
    plan = fit_plan(city)
    own = fit_table(plan, table)
    return (plan, own, fit_table(plan, other))


def moments(city, table, other):
    """The list of the moments between the first and the last one at which the LOT changes."""
    plan, own, there = fit_walk(city, table, other)
    return [moment for moment, _, _ in walk(plan, own, there)[1:]]


def lots_between(city, table, other):
    """The list of the LOTS at the first moment, right behind it, and so on, and at the last moment."""
    plan, own, there = fit_walk(city, table, other)
    found = []
    for _, lot, behind in walk(plan, own, there):
        found.extend([lot, behind])
    return found + [roads_in(bag_of(plan, there))]


def bag_then(city, table, other, moment):
    """The BAG of the TABLE at moment."""
    plan, own, there = fit_walk(city, table, other)
    pair = as_row_of(moment, 2)
    if pair is None or not are_numbers_all(pair) or pair[1] < 1 or pair[0] < 0 or pair[0] > pair[1]:
        raise Unfit()
    return bag_of(plan, table_then(own, there, pair))


def fit_put(city, bag, crossing, number):
    """The plan, the BAG, and the TABLE that number at crossing alone is."""
    plan = fit_plan(city)
    own = fit_bag(plan, bag)
    here = fit_number(crossing)
    fit_number(number)
    fit_crossing(plan, here)
    return (plan, own, [number if at == here else 0 for at in range(plan.size)])


def put_on(plan, bag, step):
    """The BAG of the TABLE of bag and step added up."""
    return bag_of(plan, [number + more for number, more in zip(table_by(plan, bag), step)])


def put(city, bag, crossing, number):
    """The BAG of the TABLE of bag with number more at crossing."""
    plan, own, step = fit_put(city, bag, crossing, number)
    return put_on(plan, own, step)


def gone_and_come(city, bag, crossing, number):
    """The pair of the ROADS of bag that are not in put, and of those in put that are not in bag."""
    plan, own, step = fit_put(city, bag, crossing, number)
    ahead, behind = roads_in(own), roads_in(put_on(plan, own, step))
    return (tuple([road for road in ahead if road not in behind]),
            tuple([road for road in behind if road not in ahead]))


def first_put(city, bag, crossing, number):
    """The least k from 1 such that k times number more at crossing makes another LOT; None if there is none.

    A LOT that was left never comes again, so it is the first k that is not ahead of when it is left.
    """
    plan, own, step = fit_put(city, bag, crossing, number)
    if number == 0:
        raise Unfit()
    lot, behind, left = step_from(plan, table_by(plan, own), step)
    if behind != lot:
        return 1
    return None if left is None else (left[0] + left[1] - 1) // left[1]


def ways_from(plan, lot):
    """By FULL LOT, nearest ones ahead: (how far it is from lot, the FULL LOT ahead of it, the EXCHANGE from there).

    TooMany() if the city has too many crossings.
    """
    if plan.size > MOST_CROSSINGS:
        raise TooMany()
    found, near, far = {lot: (0, None, None)}, [lot], 0
    while near:
        far, further = far + 1, []
        for own in near:
            rows = Rows(plan, own)
            for number in range(plan.size):
                there = rows.exchanged(number)
                if there not in found:
                    found[there] = (far, own, rows.exchange(number))
                    further.append(there)
        near = further
    return found


def how_far(city, lot, other):
    """The fewest EXCHANGES by which lot is led into other."""
    plan, own, there = fit_two_full(city, lot, other)
    return ways_from(plan, own)[there][0]


def exchanges_to(city, lot, other):
    """A tuple of the fewest EXCHANGES by which lot is led into other."""
    plan, own, there = fit_two_full(city, lot, other)
    found, steps, at = ways_from(plan, own), [], there
    while at != own:
        _, ahead, step = found[at]
        steps.append(step)
        at = ahead
    return tuple(reversed(steps))


def by_far(city, lot):
    """The tuple of how many FULL LOTS are 0, 1, 2, .. EXCHANGES away from lot."""
    plan = fit_plan(city)
    rows = list(ways_from(plan, fit_full(plan, lot)).values())
    counts = [0] * (rows[-1][0] + 1)
    for far, _, _ in rows:
        counts[far] += 1
    return tuple(counts)


def is_row(city, lot, other, thing):
    """Whether thing is a tuple of EXCHANGES, one behind the other, by which lot is led into other."""
    plan, own, there = fit_two_full(city, lot, other)
    if not isinstance(thing, tuple):
        return False
    at = own
    for step in thing:
        at = led_by(plan, at, step)
        if at is None:
            return False
    return at == there


def led_by(plan, lot, step):
    """The FULL LOT into which lot is led if step is one of its EXCHANGES, else None."""
    if not isinstance(step, tuple) or len(step) != 3:
        return None
    for number in range(plan.size):
        if is_just(step[0], lot[number]) or is_just(step[1], lot[number]):
            rows = Rows(plan, lot)
            return rows.exchanged(number) if is_just(step, rows.exchange(number)) else None
    return None

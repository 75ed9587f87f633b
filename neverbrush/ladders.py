"""All FULL LOTS of a city, or all that have told ROADS, each with its steps up."""

from neverbrush.errors import TooMany
from neverbrush.fulls import finished_from, inner_of
from neverbrush.rows import Rows

MOST_LOTS = 2000


def steps_up(plan, lot, kept):
    """The list of the pairs (stretch, FULL LOT) to which lot is led up, ROAD by ROAD, but for the ROADS of kept."""
    rows = Rows(plan, lot)
    return [(rows.forms[number][0], rows.exchanged(number)) for number in range(plan.size)
            if rows.forms[number][1] == 1 and lot[number] not in kept]


def ladder_with(plan, kept):
    """By FULL LOT that has all ROADS of the LOT kept its steps up by the others; TooMany() if they are not few.

    All of them lie above the one whose others are low. With some ROAD that is not kept, and with its newcomer,
    there are others, and none has both: so each ROAD that is not kept makes them twice as many at the least.
    """
    if 1 << (plan.size - len(kept)) > MOST_LOTS:
        raise TooMany()
    least = finished_from(plan, inner_of(plan, kept), 1)
    ladder, known, row = {}, {least: True}, [least]
    while row:
        lot = row.pop()
        ladder[lot] = steps_up(plan, lot, kept)
        for _, above in ladder[lot]:
            if above not in known:
                known[above] = True
                row.append(above)
        if len(known) > MOST_LOTS:
            raise TooMany()
    return ladder


def ladder_of(plan):
    """By FULL LOT its steps up; TooMany() if the FULL LOTS are not few."""
    return ladder_with(plan, ())


def all_full(plan):
    """The ascending list of all FULL LOTS; TooMany() if they are not few."""
    return sorted(list(ladder_of(plan)))


def order_from(ladder, lot):
    """The list of lot and all above it, each behind all of them that lie below it."""
    waits, row = {lot: 0}, [lot]
    while row:
        own = row.pop()
        for _, above in ladder[own]:
            if above not in waits:
                waits[above] = 0
                row.append(above)
            waits[above] += 1
    ordered, ready = [], [lot]
    while ready:
        own = ready.pop()
        ordered.append(own)
        for _, above in ladder[own]:
            waits[above] -= 1
            if waits[above] == 0:
                ready.append(above)
    return ordered


def lengths_from(ladder, lot):
    """By FULL LOT that is lot or lies above it the pair of the fewest and of the most steps of CLIMBS from lot."""
    lengths = {lot: (0, 0)}
    for own in order_from(ladder, lot):
        fewest, most = lengths[own]
        for _, above in ladder[own]:
            less, more = lengths.get(above, (fewest + 1, most + 1))
            lengths[above] = (min(less, fewest + 1), max(more, most + 1))
    return lengths


def longest_from(ladder, lot):
    """A CLIMB with the most steps from lot to the FULL LOT that lies above all others."""
    ordered = order_from(ladder, lot)
    steps = {lot: (0, None, None)}
    for own in ordered:
        more = steps[own][0] + 1
        for stretch, above in ladder[own]:
            if above not in steps or steps[above][0] < more:
                steps[above] = (more, stretch, own)
    found, at = [], ordered[-1]
    while at != lot:
        _, stretch, at = steps[at]
        found.append(stretch)
    return tuple(reversed(found))

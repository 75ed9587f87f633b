"""Which CITIES are alike: parts of plans, told in an order that does not depend on their numbers."""

from neverbrush.plans import SIDES, WAYS


def tables_of(plan):
    """The list of the tables of where each way leads, whence one comes from each side."""
    return [plan.nexts[way] for way in WAYS] + [plan.aheads[side] for side in SIDES]


def order_on(tables, first):
    """The list of the crossings of the part of first, in the order in which one comes to them by tables from it."""
    order, places, at = [first], {first: 0}, 0
    while at < len(order):
        for table in tables:
            there = table[order[at]]
            if there is not None and there not in places:
                places[there] = len(order)
                order.append(there)
        at += 1
    return order


def shape_of(tables, order):
    """The tuple of where tables lead from each crossing of order, told by places in order, -1 where nowhere."""
    places = {crossing: place for place, crossing in enumerate(order)}
    return tuple([places.get(table[crossing], -1) for crossing in order for table in tables])


def least_shape(tables, part):
    """The triple of the least shape of a part, of an order that has it, and of how many orders have it.

    Who knows where one crossing goes knows it of its part: so parts are alike exactly if their least shapes
    are, and a part is renamed to itself in just as many ways as its orders have this shape.
    """
    rows = [order_on(tables, first) for first in part]
    shapes = [shape_of(tables, order) for order in rows]
    least = min(shapes)
    return (least, rows[shapes.index(least)], shapes.count(least))


def shapes_of(plan):
    """The list, sorted, of the least_shape of each part of plan."""
    tables, known, found = tables_of(plan), {}, []
    for crossing in range(plan.size):
        if crossing not in known:
            part = order_on(tables, crossing)
            known.update({own: True for own in part})
            found.append(least_shape(tables, part))
    return sorted(found)


def numbers_between(plan, other):
    """Numbers that rename the CITY of plan to that of other; None if there are none."""
    parts, others = shapes_of(plan), shapes_of(other)
    if [shape for shape, _, _ in parts] != [shape for shape, _, _ in others]:
        return None
    numbers = [0] * plan.size
    for (_, order, _), (_, there, _) in zip(parts, others):
        for crossing, number in zip(order, there):
            numbers[crossing] = number
    return tuple(numbers)


def how_many_renamings(plan):
    """How many numbers rename the CITY of plan to itself: like parts in any order, each in its own ways."""
    total, often = 1, {}
    for shape, _, ways in shapes_of(plan):
        often[shape] = often.get(shape, 0) + 1
        total *= ways * often[shape]
    return total

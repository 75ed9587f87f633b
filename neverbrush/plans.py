"""A CITY laid out crossing by crossing: where each way leads, whence one comes."""

from neverbrush.kinds import are_numbers_all, as_row, as_row_of, is_rising

WAYS = ("E", "S")
SIDES = ("N", "W")


def side_behind(way):
    """The side from which one comes to the crossing to which way leads."""
    return "W" if way == "E" else "N"


def straight_on(side):
    """The way that leads straight on for who comes from side."""
    return "E" if side == "W" else "S"


def street_from(value):
    """The street in tuples, None if value is none."""
    street = as_row(value)
    if not street or not are_numbers_all(street) or not is_rising(street):
        return None
    return street


def streets_from(value):
    """The set of streets in tuples, None if value is none."""
    rows = as_row(value)
    if not rows:
        return None
    streets = [street_from(own) for own in rows]
    if any([street is None for street in streets]) or not is_rising(streets):
        return None
    return tuple(streets)


def numbers_on(streets):
    """The ascending list of the numbers on streets, each as often as it stands there."""
    return sorted([number for street in streets for number in street])


def city_from(value):
    """The CITY in tuples, None if value is none."""
    pair = as_row_of(value, 2)
    if pair is None:
        return None
    east, south = streets_from(pair[0]), streets_from(pair[1])
    if east is None or south is None:
        return None
    numbers = numbers_on(east)
    if numbers != list(range(len(numbers))) or numbers_on(south) != numbers:
        return None
    return (east, south)


class Plan:
    """A CITY: streets, the pair of those east and south; nexts by way, aheads by side, None where none is."""

    def __init__(self, city):
        self.streets = city
        self.size = sum([len(street) for street in city[0]])
        self.nexts = {"E": next_ones(city[0], self.size), "S": next_ones(city[1], self.size)}
        self.aheads = {"W": ahead_ones(city[0], self.size), "N": ahead_ones(city[1], self.size)}


def next_ones(streets, size):
    """The list of the next crossing on its street, for each crossing."""
    there = [None] * size
    for street in streets:
        for k in range(len(street) - 1):
            there[street[k]] = street[k + 1]
    return there


def ahead_ones(streets, size):
    """The list of the crossing ahead on its street, for each crossing."""
    there = [None] * size
    for street in streets:
        for k in range(len(street) - 1):
            there[street[k + 1]] = street[k]
    return there


def beginnings_on(plan):
    """The ascending list of the pairs (side, first crossing of a street)."""
    return [(side, crossing) for side in SIDES for crossing in range(plan.size)
            if plan.aheads[side][crossing] is None]


def streets_by(there):
    """The set of streets of which there tells the next crossing of each crossing."""
    later = {own: True for own in there if own is not None}
    streets = []
    for first in range(len(there)):
        if first not in later:
            street, at = [], first
            while at is not None:
                street.append(at)
                at = there[at]
            streets.append(tuple(street))
    return tuple(streets)

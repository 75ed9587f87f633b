"""Made inputs, by counting: cities, words, tables, odd values, lists for tuples."""

from neverbrush.floors import line, rectangle

SQUARE = (((0, 1), (2, 3)), ((0, 2), (1, 3)))
ALLEY = (((0, 1, 2),), ((0,), (1,), (2,)))
TWICE = (((0, 1),), ((0, 1),))
BOW = (((0, 2, 3), (1,)), ((0, 1, 2, 3),))
ODD_ONE = (((0, 2), (1,)), ((0, 1, 2),))
LONE = (((0,),), ((0,),))
APART = (((0,), (1,)), ((0,), (1,)))
TWIN = (((0, 1, 2),), ((0, 1, 2),))

NAMED = (SQUARE, ALLEY, TWICE, BOW, ODD_ONE, LONE, APART, TWIN)

DOUBLED_60 = ((tuple(range(60)),), (tuple(range(60)),))


class Figures:
    """Figures that look thrown but are counted: the same at each run."""

    def __init__(self, seed):
        self.at = seed * 7919 + 17

    def below(self, many):
        self.at = (self.at * 6364136223846793005 + 1442695040888963407) % 2 ** 64
        return (self.at >> 33) % many

    def one_of(self, row):
        return row[self.below(len(row))]

    def between(self, low, high):
        return low + self.below(high - low + 1)


def partitions(many):
    """All sets of streets of the numbers 0 to many - 1."""
    if many == 0:
        return [()]
    found = []
    for own in partitions(many - 1):
        found.append(own + ((many - 1,),))
        for k in range(len(own)):
            found.append(own[:k] + (own[k] + (many - 1,),) + own[k + 1:])
    return [tuple(sorted(own)) for own in found]


def all_cities(many):
    """All CITIES of many crossings."""
    kinds = partitions(many)
    return [(east, south) for east in kinds for south in kinds]


SMALL = [city for many in (1, 2, 3) for city in all_cities(many)]


def made_city(figures, many):
    """Some CITY of many crossings."""
    sides = []
    for _ in range(2):
        streets = []
        for crossing in range(many):
            if streets and figures.below(4):
                streets[figures.below(len(streets))].append(crossing)
            else:
                streets.append([crossing])
        sides.append(tuple(sorted(tuple(own) for own in streets)))
    return tuple(sides)


def made_cities(many, most, seed=1):
    """A list of so many CITIES of up to most crossings."""
    figures = Figures(seed)
    return [made_city(figures, figures.between(1, most)) for _ in range(many)]


def made_table(figures, many, size=3):
    return tuple(figures.between(-size, size) for _ in range(many))


def parted_line(lengths):
    """Lines doubled throughout, of these lengths, beside one another."""
    return line("0".join("B" * (many - 1) for many in lengths))


# CITIES of 60 crossings.
SIXTIES = [DOUBLED_60, rectangle(6, 10), line("E" * 59), line("S" * 59), line("0" * 59), line("BS0E" * 14 + "BBB")]

# CITIES with just so many bent ROADS, STRETCHES, FULL LOTS.
ROADS_2000 = parted_line([9, 8, 7, 6, 5, 3, 2, 2])
ROADS_2001 = line("0".join(["B" * 8, "B" * 7, "B" * 6, "B" * 5, "B" * 4, "B" * 2, "B", "E", ""]))
STRETCHES_2000 = parted_line([9, 8, 7, 6, 5, 5, 1, 1, 1, 1])
STRETCHES_2001 = parted_line([9, 8, 7, 6, 5, 5, 1, 1, 1, 1, 1])
LOTS_2000 = line("E0E0E0000")
LOTS_2002 = line("BSSSSS")


def listed(value):
    """value with a list for each tuple, at any depth."""
    if isinstance(value, (list, tuple)):
        return [listed(own) for own in value]
    return value


def listed_below(value, depth):
    """value with a list for each tuple at just this depth."""
    if not isinstance(value, (list, tuple)):
        return value
    row = [listed_below(own, depth - 1) for own in value]
    return row if depth == 0 else tuple(row)


def turned_kinds(value):
    """value with a list for each tuple and a tuple for each list."""
    if isinstance(value, tuple):
        return [turned_kinds(own) for own in value]
    if isinstance(value, list):
        return tuple(turned_kinds(own) for own in value)
    return value


def deep(value, depth):
    for _ in range(depth):
        value = (value,)
    return value


def deep_list(value, depth):
    for _ in range(depth):
        value = [value]
    return value


ODD_THINGS = (
    None, True, False, 0, 1, -1, 10 ** 40, "", "E", "W", "x" * 5000, "\u20ac", (), [], ((),), [[]],
    ((), ()), ((), (), ()), (0,), [0], (0, ""), [0, ""], ("W", 0, "S"), ["W", 0, "S"], (True, ""),
    (False, False), ("W", True, "S"), (None, None), (None, None, None), deep(0, 20), deep_list(0, 20),
    deep((), 19), ([], ()), ((0, 1), (2, 3)), tuple(range(5000)), list(range(5000)),
    ((0,) * 3000, (0,) * 3000), (("W",) * 3, 0, "S"), ("W", (0,), "S"), ("W", 0, ("S",)), ("W", 0, 0),
    ("W", "0", "S"), (0, ("E",)), (0, "E" * 5000), ("W", 0, "E" * 5000), ("W", 0, "\u20ac"),
    (10 ** 40, ""), (-1, ""), ("W", -1, "S"), ("W", 10 ** 40, "S"), ((None,), (None,)),
    (((None,),), ((None,),)), ((("0",),), (("0",),)), (((True,),), ((False,),)), (((0,),), ((False,),)),
    (((0,),), [(0,)]), [((0,),), ((0,),)], (((0,),), ([0],)), ([(0,)], ((0,),)),
    ((("W", 0, "S"), True),), ((("W", 0, "S"), 0),), ((("W", 0, "S"), -1),), ((("W", 0, "S"), None),),
    ([("W", 0, "S"), 1],), ((["W", 0, "S"], 1),), [(("W", 0, "S"), 1)], ((("W", False, "S"), 1),),
    (("W", 0, "S"), ("W", 0, "S")), (("W", 0, "S"), ("N", 0, "E")), tuple([(("W", 0, "S"), 1)] * 500),
)

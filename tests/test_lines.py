"""Lines, promise 19."""

import unittest
from itertools import combinations, permutations, product

from neverbrush.bags import bag
from neverbrush.brushing import do_brush
from neverbrush.errors import CanNot, TooMany
from neverbrush.floors import line
from neverbrush.forms import home
from neverbrush.lines import count_line, diagonal_of, is_ordering, lot_of_ordering, lot_of_triangles, ordering_of
from neverbrush.lines import orderings_of, places_of, road_of_diagonal, roads_of_places, sorted_bag, tell_one
from neverbrush.lines import triangles_of
from neverbrush.lots import full_lots, greatest_lot, how_many_full, is_full, least_lot
from neverbrush.seams import seams
from neverbrush.walks import by_far
from tests import plain
from tests.checks import Checks
from tests.made import Figures, listed, listed_below, made_table
from tests.plain_lots import subsets, town

SHORT = [""] + ["".join(word) for many in (1, 2) for word in product("ESB0", repeat=many)]
THREES = ["EEE", "BBB", "000", "EBS", "B0B", "SEB", "E0S", "BEB"]
LONG = ["B" * 59, "E" * 59, "S" * 59, "0" * 59, "BS0E" * 14 + "BBB", "EB" * 29 + "S"]

# ORDERINGS of words: just so many others tell the same LOT, and itself.
JUST_2000 = ("SBE0EEBEE", (1, 8, 5, 7, 9, 2, 6, 4, 10, 0, 3))
JUST_2001 = ("EEESESEEB", (8, 1, 7, 4, 0, 5, 3, 9, 6, 10, 2))


def orderings(word):
    return list(permutations(range(len(word) + 2)))


def inversions(ordering):
    return sum(1 for one, other in combinations(ordering, 2) if one > other)


def falls(ordering):
    return sum(1 for one, other in zip(ordering, ordering[1:]) if one > other)


def told_plainly(word, ordering):
    """The FULL LOT that an ORDERING tells, as the document says it."""
    found = set()
    for many in range(1, len(ordering)):
        found.update(plain.roads_of_places(word, set(ordering[:many])))
    return tuple(sorted(found))


def may_change(word, ordering, k):
    """Whether the members k and k + 1 of an ORDERING may be exchanged: the LOT stays."""
    p, q = sorted(ordering[k:k + 2])
    ahead = any(word[c - 1] in "S0" for c in ordering[:k] if p < c < q)
    return ahead or any(word[c - 1] in "E0" for c in ordering[k + 2:] if p < c < q)


def with_change(ordering, k):
    return ordering[:k] + (ordering[k + 1], ordering[k]) + ordering[k + 2:]


def thrown(figures, many):
    """Some ORDERING of the numbers from 0 below many."""
    row = list(range(many))
    for k in reversed(range(1, many)):
        n = figures.below(k + 1)
        row[k], row[n] = row[n], row[k]
    return tuple(row)


class Places(Checks):
    def test_roads_as_one_walks(self):
        for word in SHORT + THREES:
            for places in subsets(range(len(word) + 2)):
                known = tuple(sorted(plain.roads_of_places(word, set(places))))
                self.assertEqual(roads_of_places(word, places), known)
                self.assertEqual(roads_of_places(word, list(places)), known)
                for road in known:
                    self.assertIn(road, plain.bent_roads(line(word)))

    def test_edges(self):
        self.assertEqual(roads_of_places("", ()), ())
        self.assertEqual(roads_of_places("", (0, 1)), ())
        self.assertEqual(roads_of_places("", (0,)), (("W", 0, "S"),))
        self.assertEqual(roads_of_places("", (1,)), (("N", 0, "E"),))
        for word in SHORT + LONG:
            self.assertEqual(roads_of_places(word, ()), ())
            self.assertEqual(roads_of_places(word, tuple(range(len(word) + 2))), ())
        figures = Figures(191)
        for word in LONG:
            for _ in range(5):
                places = tuple(k for k in range(61) if figures.below(2))
                self.assertEqual(roads_of_places(word, places), tuple(sorted(plain.roads_of_places(word, set(places)))))
        self.assertEqual(len(roads_of_places("0" * 59, tuple(range(0, 61, 2)))), 60)

    def test_places_there_and_back(self):
        for many in range(5):
            word = "B" * many
            known = {}
            for places in subsets(range(many + 2)):
                road = [road for road in plain.all_roads(line(word)) if places_of(word, road) == places]
                self.assertEqual(len(road), 1)
                known[road[0]] = places
                bent = roads_of_places(word, places)
                self.assertEqual(bent, tuple(road) if plain.bends(line(word), road[0]) else ())
            self.assertEqual(sorted(known), plain.all_roads(line(word)))
        long = ("N", 0, "ES" * 30)
        self.assertEqual(places_of("B" * 59, long), tuple(range(1, 61, 2)))
        self.assertEqual(places_of("B" * 59, list(long)), tuple(range(1, 61, 2)))
        self.assertEqual(places_of("B" * 59, ("W", 0, "E" * 60)), tuple(range(61)))
        self.assertEqual(places_of("", ("N", 0, "S")), ())

    def test_not_all_doubled(self):
        for word in SHORT + THREES:
            for road in plain.all_roads(line(word)):
                if set(word) <= {"B"}:
                    places_of(word, road)
                else:
                    self.raises(CanNot, {}, places_of, word, road)
        self.unfit(places_of, "E", ("W", 0, "EEE"))
        self.unfit(places_of, "BB", ("W", 0, "EE"))
        self.unfit(places_of, "X", ("W", 0, "EE"))


class Orderings(Checks):
    def test_is_ordering(self):
        for many in range(4):
            for row in product(range(-1, many + 3), repeat=many + 2):
                self.assertIs(is_ordering("E" * many, row), sorted(row) == list(range(many + 2)))
        for thing in ([0, 1], (0, True), (False, 1), (0,), (0, 1, 2), (0, 1.0), None, "01", (0, (1,)), (1, 0) * 4000):
            self.assertIs(is_ordering("", thing), False)
        self.assertIs(is_ordering("B" * 59, tuple(reversed(range(61)))), True)
        self.assertIs(is_ordering("B" * 59, tuple(range(60))), False)

    def test_lots_by_the_words_of_the_document(self):
        for word in SHORT + THREES:
            lots = {ordering: told_plainly(word, ordering) for ordering in orderings(word)}
            fulls = {lot for lot in plain.all_lots(line(word)) if len(lot) == len(word) + 1}
            self.assertEqual(set(lots.values()), fulls)
            if set(word) <= {"B"}:
                self.assertEqual(len(fulls), len(lots))
            for ordering, lot in lots.items():
                self.assertEqual(lot_of_ordering(word, ordering), lot)
                self.assertEqual(lot_of_ordering(word, list(ordering)), lot)
            self.check_classes(word, lots)

    def check_classes(self, word, lots):
        for lot in set(lots.values()):
            tells = sorted(ordering for ordering in lots if lots[ordering] == lot)
            found = orderings_of(word, lot)
            self.assertIsInstance(found, list)
            self.assertEqual(found, tells)
            self.assertEqual(orderings_of(word, listed(lot)), tells)
            fewest = min(map(inversions, tells))
            least = [ordering for ordering in tells if inversions(ordering) == fewest]
            self.assertEqual(least, [ordering_of(word, lot)])
            self.assertEqual(falls(least[0]), len(seams(line(word), lot)))
            self.check_joined(word, tells)

    def check_joined(self, word, tells):
        """All that tell one LOT are joined by exchanges of neighbours, and no other is."""
        found, row = {tells[0]}, [tells[0]]
        while row:
            own = row.pop()
            for k in range(len(own) - 1):
                other = with_change(own, k)
                if may_change(word, own, k) and other not in found:
                    found.add(other)
                    row.append(other)
        self.assertEqual(found, set(tells))

    def test_tell_one(self):
        figures = Figures(192)
        for word in SHORT + THREES:
            everyone = orderings(word)
            for own in everyone[::1 + len(everyone) // 30]:
                for k in range(len(own) - 1):
                    other = with_change(own, k)
                    self.assertIs(tell_one(word, own, other), may_change(word, own, k))
                other = figures.one_of(everyone)
                is_one = told_plainly(word, own) == told_plainly(word, other)
                self.assertIs(tell_one(word, list(own), other), is_one)
                self.assertIs(tell_one(word, other, own), is_one)
                self.assertIs(tell_one(word, own, own), True)

    def test_longer_words(self):
        figures = Figures(193)
        for _ in range(40):
            word = "".join(figures.one_of("EESB0") for _ in range(figures.between(4, 6)))
            own = thrown(figures, len(word) + 2)
            lot = lot_of_ordering(word, own)
            self.assertEqual(lot, told_plainly(word, own))
            self.assertIs(is_full(line(word), lot), True)
            known = {own}
            row = [own]
            while row:
                at = row.pop()
                for k in range(len(at) - 1):
                    if may_change(word, at, k) and with_change(at, k) not in known:
                        known.add(with_change(at, k))
                        row.append(with_change(at, k))
            if len(known) > 2000:
                self.raises(TooMany, {}, orderings_of, word, lot)
            else:
                self.assertEqual(orderings_of(word, lot), sorted(known))
            least = min(known, key=inversions)
            self.assertEqual(ordering_of(word, lot), least)
            self.assertEqual(falls(least), len(seams(line(word), lot)))

    def test_sixty(self):
        figures = Figures(194)
        for word in LONG:
            for own in (tuple(range(61)), tuple(reversed(range(61))), thrown(figures, 61)):
                lot = lot_of_ordering(word, own)
                self.assertIs(is_full(line(word), lot), True)
                least = ordering_of(word, lot)
                self.assertEqual(falls(least), len(seams(line(word), lot)))
                self.assertEqual(lot_of_ordering(word, least), lot)
                self.assertIs(tell_one(word, least, own), True)
                self.assertLessEqual(inversions(least), inversions(own))
                for k in range(60):
                    other = with_change(own, k)
                    self.assertIs(tell_one(word, own, other), may_change(word, own, k))
            self.assertEqual(lot_of_ordering(word, tuple(range(61))), least_lot(line(word)))
            self.assertEqual(lot_of_ordering(word, tuple(reversed(range(61)))), greatest_lot(line(word)))
        for own in (tuple(range(61)), thrown(figures, 61)):
            self.assertEqual(orderings_of("B" * 59, lot_of_ordering("B" * 59, own)), [own])
        for word in ("0" * 59, "E" * 59):
            self.assertEqual(orderings_of(word, lot_of_ordering(word, tuple(range(61)))), [tuple(range(61))])
            self.raises(TooMany, {}, orderings_of, word, lot_of_ordering(word, thrown(figures, 61)))

    def test_just_so_many(self):
        word, own = JUST_2000
        found = orderings_of(word, lot_of_ordering(word, own))
        self.assertEqual((len(found), sorted(set(found))), (2000, found))
        self.assertIn(own, found)
        for other in found[::97]:
            self.assertEqual(lot_of_ordering(word, other), lot_of_ordering(word, own))
        word, own = JUST_2001
        lot = lot_of_ordering(word, own)
        self.raises(TooMany, {}, orderings_of, word, lot)
        self.assertEqual(lot_of_ordering(word, ordering_of(word, lot)), lot)
        self.unfit(orderings_of, word, lot[1:])

    def test_below_is_fewer_inversions_of_doubled_words(self):
        lots = {ordering: lot_of_ordering("BB", ordering) for ordering in orderings("BB")}
        self.assertEqual(sorted(lots.values()), sorted(full_lots(line("BB"))))
        for own, lot in lots.items():
            steps = [with_change(own, k) for k in range(3) if own[k] < own[k + 1]]
            self.assertEqual(sorted(lots[step] for step in steps), sorted(town(line("BB")).ups[lot].values()))
        self.assertEqual(sum(by_far(line("BB"), lots[(0, 1, 2, 3)])), 24)


class Sorting(Checks):
    def test_beside_bag(self):
        figures = Figures(195)
        for word in SHORT + THREES:
            tables = [(0,) * (len(word) + 1)] + [made_table(figures, len(word) + 1) for _ in range(12)]
            for table in tables + [made_table(figures, len(word) + 1, 10 ** 6)]:
                known = plain.line_bag(word, table)
                self.assertEqual(sorted_bag(word, table), known)
                self.assertEqual(sorted_bag(word, list(table)), known)
                self.assertEqual(bag(line(word), table), known)
        for word in LONG:
            for size in (1, 3, 10 ** 6):
                table = made_table(figures, 60, size)
                self.assertEqual(sorted_bag(word, table), bag(line(word), table))
            self.assertEqual(sorted_bag(word, (0,) * 60), ())
            for sign in (1, -1):
                self.assertEqual(sorted_bag(word, (sign * 10 ** 6,) * 60), bag(line(word), (sign * 10 ** 6,) * 60))

    def test_all_small_tables(self):
        for word in SHORT:
            for table in product((-1, 0, 1), repeat=len(word) + 1):
                self.assertEqual(sorted_bag(word, table), bag(line(word), table))

    def test_lots_are_orderings_of_places(self):
        figures = Figures(196)
        for word in SHORT + THREES + ["BESB0E"]:
            for _ in range(10):
                table = made_table(figures, len(word) + 1, 99)
                levels = [0]
                for number in table:
                    levels.append(levels[-1] - number)
                if len(set(levels)) == len(levels):
                    own = tuple(sorted(range(len(levels)), key=lambda place: -levels[place]))
                    self.assertEqual(lot_of_ordering(word, own), home(line(word), table))
                    self.assertEqual(lot_of_ordering(word, own), tuple(road for road, _ in sorted_bag(word, table)))


class Counting(Checks):
    def test_beside_all_full_lots(self):
        for word in SHORT + THREES + ["".join(own) for own in product("ESB0", repeat=3)][::3]:
            self.assertEqual(count_line(word), how_many_full(line(word)))
        for word in ("EEEE", "0000", "E0SB", "BESE", "SSBE", "ESES"):
            self.assertEqual(count_line(word), how_many_full(line(word)))

    def test_beside_orderings(self):
        figures = Figures(197)
        for _ in range(12):
            word = "".join(figures.one_of("ESB0") for _ in range(5))
            least = [own for own in orderings(word) if not any(own[k] > own[k + 1] and may_change(word, own, k)
                                                               for k in range(6))]
            self.assertEqual(count_line(word), len(least))

    def test_east_for_south(self):
        figures = Figures(198)
        for _ in range(200):
            word = "".join(figures.one_of("ESB0") for _ in range(figures.below(13)))
            self.assertEqual(count_line(word), count_line(word.replace("S", "E")))
            self.assertEqual(count_line(word), count_line(word[::-1]))

    def test_twelve_letters(self):
        factorial, catalan = 1, [1]
        for many in range(1, 15):
            factorial *= many
            catalan.append(sum(catalan[k] * catalan[many - 1 - k] for k in range(many)))
            if many > 1:
                self.assertEqual(count_line("B" * (many - 2)), factorial)
                self.assertEqual(count_line("E" * (many - 2)), catalan[many])
                self.assertEqual(count_line("S" * (many - 2)), catalan[many])
                self.assertEqual(count_line("0" * (many - 2)), 2 ** (many - 1))
        self.assertEqual(count_line("BBB0EEE0SSSS"), 120 * 42 * 132)
        self.assertEqual(count_line(""), 2)
        for word in ("B" * 13, "E" * 13, "EB0S" * 4):
            self.assertGreater(count_line(word), 2000)


def crosses(one, other):
    return one[0] < other[0] < one[1] < other[1] or other[0] < one[0] < other[1] < one[1]


def all_diagonals(last):
    return [(one, other) for one in range(last + 1) for other in range(one + 2, last + 1) if (one, other) != (0, last)]


def cut_up(row):
    """All ways to cut the polygon with these corners into triangles."""
    if len(row) < 3:
        return [()]
    found = []
    for k in range(1, len(row) - 1):
        for less in cut_up(row[:k + 1]):
            for more in cut_up(row[k:]):
                found.append(less + more + ((row[0], row[k], row[-1]),))
    return [tuple(sorted(own)) for own in found]


class Polygons(Checks):
    def test_diagonals_there_and_back(self):
        for many in range(1, 7):
            city = line("E" * (many - 1))
            known = {}
            for road in plain.all_roads(city):
                if not plain.bends(city, road):
                    self.unfit(diagonal_of, many, road)
                    continue
                pair = diagonal_of(many, road)
                known[pair] = road
                self.assertEqual(diagonal_of(many, list(road)), pair)
                self.assertEqual(road_of_diagonal(many, pair), road)
                self.assertEqual(road_of_diagonal(many, list(pair)), road)
            self.assertEqual(sorted(known), all_diagonals(many + 2))
            for one, other in combinations(known, 2):
                self.assertIs(do_brush(city, known[one], known[other]), crosses(one, other))
            for pair in product(range(-1, many + 4), repeat=2):
                if pair not in known:
                    self.unfit(road_of_diagonal, many, pair)

    def test_corners_as_told(self):
        for many in (1, 4, 60):
            city = line("E" * (many - 1))
            for pair in all_diagonals(many + 2)[::7]:
                side, first, moves = road_of_diagonal(many, pair)
                last = plain.passes(city, (side, first, moves))[-1][0]
                self.assertEqual(pair[0], 0 if side == "W" else first + 1)
                self.assertEqual(pair[1], many + 2 if moves[-1] == "E" else last + 2)
                self.assertEqual(diagonal_of(many, (side, first, moves)), pair)

    def test_triangles_there_and_back(self):
        for many in range(1, 6):
            known = {}
            for triangles in cut_up(tuple(range(many + 3))):
                sides = {pair for own in triangles for pair in combinations(own, 2)}
                lot = tuple(sorted(road_of_diagonal(many, pair) for pair in sides if pair in all_diagonals(many + 2)))
                known[lot] = triangles
            self.assertEqual(tuple(sorted(known)), full_lots(line("E" * (many - 1))))
            for lot, triangles in known.items():
                self.assertEqual(triangles_of(many, lot), triangles)
                self.assertEqual(triangles_of(many, listed(lot)), triangles)
                self.assertEqual(lot_of_triangles(many, triangles), lot)
                for depth in range(2):
                    self.assertEqual(lot_of_triangles(many, listed_below(triangles, depth)), lot)

    def test_no_triangles_of_one(self):
        good = {many: set(cut_up(tuple(range(many + 3)))) for many in (1, 2)}
        for many in good:
            triples = list(combinations(range(many + 3), 3))
            for size in range(many + 3):
                for triangles in combinations(triples, size):
                    if triangles in good[many]:
                        self.assertEqual(triangles_of(many, lot_of_triangles(many, triangles)), triangles)
                    else:
                        self.unfit(lot_of_triangles, many, triangles)
                    if size > 1:
                        self.unfit(lot_of_triangles, many, triangles[::-1])
        for triangles in (((0, 1, 2),), ((0, 1, 2), (0, 2, 3), (0, 1, 3)), ((0, 1, 2), (0, 3, 2)), ((0, 1, 2), (0, 1, 2)), 5):
            self.unfit(lot_of_triangles, 1, triangles)

    def test_sixty(self):
        figures = Figures(199)
        for own in (tuple(range(61)), tuple(reversed(range(61))), thrown(figures, 61)):
            lot = lot_of_ordering("E" * 59, own)
            triangles = triangles_of(60, lot)
            self.assertEqual(len(triangles), 61)
            self.assertEqual(lot_of_triangles(60, triangles), lot)
            self.assertEqual(sorted({pair for own in triangles for pair in combinations(own, 2)}),
                             sorted([diagonal_of(60, road) for road in lot] + [(k, k + 1) for k in range(62)] + [(0, 62)]))
        self.unfit(lot_of_triangles, 60, triangles[:-1])
        self.unfit(lot_of_triangles, 60, triangles * 100)
        self.unfit(triangles_of, 59, lot)


class Wrong(Checks):
    def test_order_of_the_checks(self):
        lot = least_lot(line("E"))
        for function, value in ((roads_of_places, (0,)), (places_of, ("W", 0, "S")), (lot_of_ordering, (0, 1)),
                                (ordering_of, lot), (orderings_of, lot), (sorted_bag, (0, 0)), (is_ordering, (0, 1, 2))):
            for word in ("X", "e", None, 5, ("E",), "E\n", " "):
                self.unfit(function, word, value)
                self.unfit(function, word, None)
        self.unfit(places_of, "E", ("W", 0, "ESE"))
        self.raises(CanNot, {}, places_of, "E", ("W", 0, "ES"))
        self.unfit(tell_one, "E", (0, 1, 2), (0, 1))
        self.unfit(tell_one, "E", (0, 1), (0, 1, 2))
        self.unfit(orderings_of, "0" * 59, lot)
        self.unfit(count_line, "BX")
        for function in (diagonal_of, road_of_diagonal, triangles_of, lot_of_triangles):
            self.unfit(function, 3, None)
            self.unfit(function, 3, ())


if __name__ == "__main__":
    unittest.main()

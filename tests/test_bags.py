"""Bags, promise 11."""

import unittest
from itertools import product

from neverbrush.bags import are_one_lot, bag, bag_of_less, bag_of_sum, beginnings_of, how_many_in, is_bag
from neverbrush.bags import is_some_bag, is_why_not_one, lot_of, on_pieces, row_on, table_of, why_not_one
from neverbrush.brushing import do_brush
from neverbrush.cities import beginnings
from neverbrush.errors import CanNot, NoCrossing, Unfit
from neverbrush.floors import line, rectangle
from tests import plain
from tests.made import ALLEY, DOUBLED_60, LONE, NAMED, SMALL, SQUARE, TWICE, Figures, listed, listed_below
from tests.made import made_cities, made_table

LITTLE = list(NAMED) + SMALL


def tables(city):
    """All TABLES of -1, 0, 1 of city."""
    return product((-1, 0, 1), repeat=plain.size(city))


def pairs_made():
    """Many pairs of a CITY and a TABLE of it."""
    figures = Figures(61)
    found = [(city, made_table(figures, plain.size(city), 4)) for city in LITTLE for _ in range(4)]
    for city in made_cities(60, 12, 62):
        found.extend((city, made_table(figures, plain.size(city), size)) for size in (1, 3, 9))
    for city in made_cities(4, 60, 63) + [DOUBLED_60, rectangle(6, 10), line("E" * 59), line("S" * 59)]:
        found.extend((city, made_table(figures, plain.size(city), size)) for size in (1, 5, 10 ** 6))
    return found


PAIRS = pairs_made()


def merged(own, other):
    """Two BAGS put together."""
    counts = dict(own)
    for road, many in other:
        counts[road] = counts.get(road, 0) + many
    return tuple(sorted(counts.items()))


def brushing_pairs(city, own, other):
    return [(road, more) for road, _ in own for more, _ in other if plain.brushing(city, road, more)]


class TheBag(unittest.TestCase):
    def test_each_table_has_just_one_bag(self):
        for city in SMALL + [TWICE]:
            known = {}
            for own in plain.all_bags(city, 3):
                self.assertEqual(bag(city, plain.table_of(city, own)), own)
                known.setdefault(plain.table_of(city, own), []).append(own)
            for table in tables(city):
                self.assertEqual(known[table], [bag(city, table)])

    def test_no_two_brush_and_the_table_is_it(self):
        for city, table in PAIRS:
            own = bag(city, table)
            self.assertEqual(plain.table_of(city, own), table)
            self.assertEqual(table_of(city, own), table)
            self.assertEqual(own, tuple(sorted(own)))
            self.assertLessEqual(len(own), plain.size(city))
            self.assertEqual(len({road for road, _ in own}), len(own))
            self.assertTrue(all(many > 0 and plain.bends(city, road) for road, many in own))
            if plain.size(city) < 15:
                self.assertTrue(plain.is_lot(city, [road for road, _ in own]))
            else:
                self.assertFalse([pair for k, (road, _) in enumerate(own) for pair in own[:k]
                                  if do_brush(city, road, pair[0])])

    def test_made_from_so_many_times(self):
        for city, table in PAIRS:
            own = bag(city, table)
            for times in (2, 7, 1000):
                self.assertEqual(bag(city, [times * number for number in table]),
                                 tuple((road, times * many) for road, many in own))

    def test_one_more_everywhere_is_full(self):
        for city, table in PAIRS:
            many = plain.size(city)
            own = bag(city, [(many + 1) * number + 1 for number in table])
            self.assertEqual(len(own), many)
            self.assertLessEqual({road for road, _ in bag(city, table)}, {road for road, _ in own})

    def test_lines_by_sorting(self):
        figures = Figures(64)
        for _ in range(150):
            word = "".join(figures.one_of("EESSBBB0") for _ in range(figures.below(60)))
            for size in (1, 4, 10 ** 6):
                table = made_table(figures, len(word) + 1, size)
                self.assertEqual(bag(line(word), table), plain.line_bag(word, table))
        table = made_table(figures, 60, 10 ** 6)
        self.assertEqual(bag(DOUBLED_60, table), plain.line_bag("B" * 59, table))

    def test_edges(self):
        for city in LITTLE + [DOUBLED_60]:
            self.assertEqual(bag(city, (0,) * plain.size(city)), ())
            self.assertEqual(table_of(city, ()), (0,) * plain.size(city))
            self.assertEqual(lot_of(city, (0,) * plain.size(city)), ())
            self.assertEqual(how_many_in(city, (0,) * plain.size(city)), 0)
        self.assertEqual(bag(LONE, (10 ** 6,)), ((("W", 0, "S"), 10 ** 6),))
        self.assertEqual(bag(LONE, (-10 ** 6,)), ((("N", 0, "E"), 10 ** 6),))
        self.assertEqual(bag(DOUBLED_60, (1,) * 60), tuple(sorted(
            (("W", 0, "E" * k + "S" * (60 - k)), 1) for k in range(60))))

    def test_lot_and_how_many(self):
        for city, table in PAIRS:
            own = bag(city, table)
            self.assertEqual(lot_of(city, table), tuple(sorted(road for road, _ in own)))
            self.assertEqual(how_many_in(city, table), sum(many for _, many in own))


class IsBag(unittest.TestCase):
    def test_is_bag(self):
        for city, table in PAIRS:
            own = bag(city, table)
            self.assertIs(is_bag(city, table, own), True)
            self.assertIs(is_bag(listed(city), listed(table), own), True)
            self.assertIs(is_some_bag(city, own), True)
            for thing in (list(own), own + ((("W", 0, "S"), 1),), own[:-1] if own else None, own + own):
                self.assertIs(is_bag(city, table, thing), own == () == thing)
            for depth in range(3):
                thing = listed_below(own, depth)
                self.assertIs(is_bag(city, table, thing), thing == own)
                self.assertIs(is_some_bag(city, thing), thing == own)

    def test_is_some_bag_tries_all(self):
        for city in SMALL[:12] + [TWICE]:
            known = set(plain.all_bags(city, 2))
            everyone = plain.all_roads(city)
            for many in range(3):
                for roads in product(everyone, repeat=many):
                    for often in product((0, 1, 2), repeat=many):
                        thing = tuple(zip(roads, often))
                        self.assertIs(is_some_bag(city, thing), thing in known)
                        if thing in known:
                            self.assertEqual(table_of(city, thing), plain.table_of(city, thing))
                            self.assertEqual(table_of(city, listed(thing)), plain.table_of(city, thing))
                        else:
                            with self.assertRaises(Unfit):
                                table_of(city, thing)

    def test_brushing_roads_are_no_bag(self):
        for city in LITTLE:
            own, bad = plain.brush_table(city)
            for road in own:
                for other in own:
                    if road < other:
                        thing = ((road, 2), (other, 1))
                        self.assertIs(is_some_bag(city, thing), (road, other) not in bad)


class Pieces(unittest.TestCase):
    def test_on_pieces(self):
        for city, table in PAIRS:
            counts = [{"W": 0, "N": 0, "E": 0, "S": 0} for _ in table]
            for road, many in bag(city, table):
                for crossing, side, way in plain.passes(city, road):
                    counts[crossing][side] += many
                    counts[crossing][way] += many
            rows = on_pieces(city, table)
            self.assertEqual(rows, [(own["W"], own["N"], own["E"], own["S"]) for own in counts])
            for (west, north, east, south), number in zip(rows, table):
                self.assertEqual((east, south), (west - number, north + number))
            for street in city[0]:
                self.assertEqual(min([rows[street[0]][0]] + [rows[own][2] for own in street]), 0)
            for street in city[1]:
                self.assertEqual(min([rows[street[0]][1]] + [rows[own][3] for own in street]), 0)

    def test_beginnings(self):
        for city, table in PAIRS:
            counts = {beginning: 0 for beginning in beginnings(city)}
            for road, many in bag(city, table):
                counts[road[:2]] += many
            self.assertEqual(beginnings_of(city, table), tuple(sorted(
                (side, first, many) for (side, first), many in counts.items())))

    def test_row_on(self):
        for city, table in PAIRS:
            own = bag(city, table)
            for crossing in range(0, plain.size(city), 1 if plain.size(city) < 13 else 7):
                for way in "ES":
                    row = row_on(city, table, crossing, way)
                    self.assertIsInstance(row, tuple)
                    wanted = [pair for pair in own
                              if any(one[0] == crossing and one[2] == way for one in plain.passes(city, pair[0]))]
                    self.assertEqual(sorted(row), wanted)
                    for k in range(len(row)):
                        for other in row[k + 1:]:
                            self.assertTrue(stands_ahead(city, row[k][0], other[0], crossing))

    def test_the_first_of_a_row_go_east(self):
        for city, table in PAIRS[:200]:
            for crossing in range(plain.size(city)):
                there = [city_ahead(city, crossing, side) for side in "WN"]
                row = []
                for side, ahead in zip("WN", there):
                    if ahead is not None:
                        row.extend(row_on(city, table, ahead, "E" if side == "W" else "S"))
                left = list(row_on(city, table, crossing, "E")) + list(row_on(city, table, crossing, "S"))
                self.assertEqual([pair for pair in left if pair in row],
                                 sorted(row, key=left.index))

    def test_row_on_errors(self):
        for crossing in (-1, 4, 10 ** 6):
            with self.assertRaises(NoCrossing) as caught:
                row_on(SQUARE, (0, 0, 0, 0), crossing, "E")
            self.assertEqual(vars(caught.exception), {"crossing": crossing})
            for way in ("W", "N", "", 0, None):
                with self.assertRaises(Unfit):
                    row_on(SQUARE, (0, 0, 0, 0), crossing, way)
            with self.assertRaises(Unfit):
                row_on(SQUARE, (0, 0, 0), crossing, "E")
        self.assertEqual(row_on(SQUARE, (0, 0, 0, 0), 3, "E"), ())


def city_ahead(city, crossing, side):
    for there, own in plain.nexts(city)["E" if side == "W" else "S"].items():
        if own == crossing:
            return there
    return None


def stands_ahead(city, road, other, crossing):
    """Whether road stands ahead of other in the row behind crossing, as the document's sentence says."""
    mine, others = plain.passes(city, road), plain.passes(city, other)
    k = [own[0] for own in mine].index(crossing)
    n = [own[0] for own in others].index(crossing)
    back, more = k, n
    while back >= 0 and more >= 0 and mine[back][0] == others[more][0]:
        if mine[back][1] != others[more][1]:
            return mine[back][1] == "W"
        back, more = back - 1, more - 1
    while mine[k] == others[n]:
        k, n = k + 1, n + 1
    return mine[k][2] == "E"


class TwoBags(unittest.TestCase):
    def test_sum_and_less(self):
        figures = Figures(65)
        for city, table in PAIRS:
            other = made_table(figures, plain.size(city), 3)
            both = tuple(one + more for one, more in zip(table, other))
            own, others = bag(city, table), bag(city, other)
            self.assertEqual(bag_of_sum(city, own, others), bag(city, both))
            self.assertEqual(bag_of_sum(city, listed(others), own), bag(city, both))
            self.assertEqual(bag_of_less(city, own), bag(city, [-number for number in table]))
            self.assertEqual(bag_of_sum(city, own, bag_of_less(city, own)), ())
            self.assertEqual(bag_of_sum(city, own, ()), own)

    def test_one_lot_exactly_if_the_sum_is_both(self):
        figures = Figures(66)
        for city, table in PAIRS:
            for size in (1, 3):
                other = made_table(figures, plain.size(city), size)
                self.check_one_lot(city, table, other)
            self.check_one_lot(city, table, table)
            self.check_one_lot(city, table, (0,) * plain.size(city))

    def test_one_lot_in_small_cities(self):
        for city in SMALL[:10] + [TWICE, ALLEY]:
            for table in tables(city):
                for other in tables(city):
                    self.check_one_lot(city, table, other)

    def check_one_lot(self, city, table, other):
        own, others = bag(city, table), bag(city, other)
        both = bag(city, [one + more for one, more in zip(table, other)])
        is_one = both == merged(own, others)
        self.assertIs(are_one_lot(city, table, other), is_one)
        if is_one:
            with self.assertRaises(CanNot) as caught:
                why_not_one(city, table, other)
            self.assertEqual(vars(caught.exception), {})
        else:
            pair = why_not_one(city, table, other)
            self.assertIn(pair[0], [road for road, _ in own])
            self.assertIn(pair[1], [road for road, _ in others])
            self.assertTrue(plain.brushing(city, *pair))
            self.assertIs(is_why_not_one(city, table, other, pair), True)
            self.assertIs(is_why_not_one(city, table, other, list(pair)), False)

    def test_is_why_not_one(self):
        figures = Figures(67)
        for city in LITTLE:
            everyone = plain.all_roads(city)
            table, other = (made_table(figures, plain.size(city), 2) for _ in range(2))
            known = brushing_pairs(city, bag(city, table), bag(city, other))
            for pair in product(everyone, repeat=2):
                self.assertIs(is_why_not_one(city, table, other, pair), pair in known)
                self.assertIs(is_why_not_one(city, table, other, (list(pair[0]), pair[1])), False)
                self.assertIs(is_why_not_one(city, table, other, pair + (0,)), False)

    def test_errors_ahead_of_things(self):
        for call in (lambda: is_bag((), (0,), None), lambda: is_bag(LONE, (0, 0), ()), lambda: is_some_bag((), ()),
                     lambda: is_why_not_one(LONE, (0,), (), None), lambda: is_why_not_one(LONE, (True,), (0,), 0)):
            with self.assertRaises(Unfit) as caught:
                call()
            self.assertEqual(vars(caught.exception), {})


if __name__ == "__main__":
    unittest.main()

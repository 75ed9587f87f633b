"""Stretches, promise 8."""

import unittest
from itertools import product

from neverbrush.errors import CanNot, NoCrossing, TooMany, Unfit
from neverbrush.floors import line, rectangle
from neverbrush.stretches import crossings_of, goes, high_passes, how_many_stretches, how_many_with, is_stretch
from neverbrush.stretches import joined, lies_over, low_passes, over_pieces, parted, stretches, sum_along
from neverbrush.stretches import under_pieces
from tests import plain
from tests.made import APART, DOUBLED_60, LONE, NAMED, SMALL, SQUARE, STRETCHES_2000, STRETCHES_2001, TWICE, Figures
from tests.made import listed, made_cities, made_table

MIDDLE = list(NAMED) + SMALL + made_cities(20, 7, 41)
LITTLE = list(NAMED) + SMALL


class OneStretch(unittest.TestCase):
    def test_is_stretch_tries_all(self):
        moves = ["".join(row) for many in range(4) for row in product("ESX", repeat=many)]
        for city in LITTLE:
            own = set(plain.all_stretches(city))
            for stretch in product(range(-1, 5), moves):
                self.assertIs(is_stretch(city, stretch), stretch in own)
                self.assertIs(is_stretch(city, list(stretch)), False)

    def test_crossings_and_sums(self):
        figures = Figures(42)
        for city in MIDDLE:
            table = made_table(figures, plain.size(city), 10 ** 6)
            for stretch in plain.all_stretches(city):
                along = plain.crossings(city, stretch)
                self.assertEqual(crossings_of(city, stretch), along)
                self.assertEqual(sum_along(city, stretch, table), sum(table[own] for own in along))
        self.assertEqual(sum_along(DOUBLED_60, (0, "ES" * 29 + "E"), (10 ** 6,) * 60), 60 * 10 ** 6)

    def test_pieces(self):
        for city in MIDDLE:
            for stretch in plain.all_stretches(city):
                over, under = over_pieces(city, stretch), under_pieces(city, stretch)
                self.assertEqual(over, tuple(plain.over_pieces(city, stretch)))
                self.assertEqual(under, tuple(plain.under_pieces(city, stretch)))
                self.assertEqual(set(over) & set(under), {stretch})

    def test_pieces_of_pieces(self):
        for city in LITTLE:
            for stretch in plain.all_stretches(city):
                for pieces in (over_pieces, under_pieces):
                    for part in pieces(city, stretch):
                        self.assertLessEqual(set(pieces(city, part)), set(pieces(city, stretch)))

    def test_lies_over(self):
        for city in LITTLE:
            own = plain.all_stretches(city)
            for stretch in own:
                for other in own:
                    shared = set(plain.over_pieces(city, stretch)) & set(plain.under_pieces(city, other))
                    self.assertIs(lies_over(city, stretch, other), bool(shared))
                self.assertIs(lies_over(city, stretch, stretch), True)

    def test_joined_and_parted(self):
        for city in LITTLE:
            own, there = plain.all_stretches(city), plain.nexts(city)
            for stretch in own:
                last = plain.crossings(city, stretch)[-1]
                for way, other in product("ES", own):
                    if there[way][last] == other[0]:
                        long = joined(city, stretch, way, other)
                        self.assertEqual(long, (stretch[0], stretch[1] + way + other[1]))
                        self.assertEqual(parted(city, long, len(stretch[1])), (stretch, other))
                    else:
                        with self.assertRaises(CanNot) as caught:
                            joined(city, stretch, way, other)
                        self.assertEqual(vars(caught.exception), {})
                for number in range(len(stretch[1])):
                    ahead, behind = parted(city, stretch, number)
                    self.assertEqual(joined(city, ahead, stretch[1][number], behind), stretch)
                for number in (-1, -len(stretch[1]), len(stretch[1]), len(stretch[1]) + 1, 10 ** 6):
                    if number not in range(len(stretch[1])):
                        with self.assertRaises(CanNot) as caught:
                            parted(city, stretch, number)
                        self.assertEqual(vars(caught.exception), {})

    def test_unfit_ahead_of_can_not(self):
        for call in (lambda: joined(SQUARE, (0, ""), "W", (0, "")), lambda: joined(SQUARE, (0, ""), "E", (9, "")),
                     lambda: joined(SQUARE, (9, ""), "E", (2, "")), lambda: joined((), (0, ""), "E", (2, "")),
                     lambda: parted(SQUARE, (0, ""), True), lambda: parted(SQUARE, (0, "EE"), 9)):
            with self.assertRaises(Unfit):
                call()


class AllStretches(unittest.TestCase):
    def test_lists_and_counts(self):
        for city in MIDDLE:
            own = plain.all_stretches(city)
            self.assertEqual(stretches(city), own)
            self.assertEqual(how_many_stretches(city), len(own))
            for crossing in range(plain.size(city)):
                self.assertEqual(how_many_with(city, crossing),
                                 sum(1 for stretch in own if crossing in plain.crossings(city, stretch)))

    def test_just_so_many(self):
        self.assertEqual(how_many_stretches(STRETCHES_2000), 2000)
        found = stretches(STRETCHES_2000)
        self.assertEqual(found, plain.all_stretches(STRETCHES_2000))
        found.clear()
        self.assertEqual(len(stretches(STRETCHES_2000)), 2000)
        self.assertEqual(how_many_stretches(STRETCHES_2001), 2001)
        for city in (STRETCHES_2001, DOUBLED_60, rectangle(6, 10)):
            with self.assertRaises(TooMany) as caught:
                stretches(city)
            self.assertEqual(vars(caught.exception), {})

    def test_sixty(self):
        self.assertEqual(how_many_stretches(DOUBLED_60), 2 ** 61 - 2 - 60)
        for crossing in range(60):
            self.assertEqual(how_many_with(DOUBLED_60, crossing),
                             (2 ** (crossing + 1) - 1) * (2 ** (60 - crossing) - 1))
        self.assertEqual(how_many_stretches(line("E" * 59)), 60 * 61 // 2)
        self.assertEqual(len(stretches(line("S" * 59))), 60 * 61 // 2)

    def test_long_stretches(self):
        long = (0, "ES" * 29 + "E")
        over, under = over_pieces(DOUBLED_60, long), under_pieces(DOUBLED_60, long)
        self.assertEqual(over, tuple(plain.over_pieces(DOUBLED_60, long)))
        self.assertEqual(under, tuple(plain.under_pieces(DOUBLED_60, long)))
        self.assertIs(is_stretch(DOUBLED_60, long), True)
        self.assertIs(is_stretch(DOUBLED_60, (0, "E" * 60)), False)
        self.assertIs(is_stretch(DOUBLED_60, (1, "E" * 59)), False)
        self.assertIs(lies_over(DOUBLED_60, long, (0, "SE" * 29 + "S")),
                      bool(set(over) & set(under_pieces(DOUBLED_60, (0, "SE" * 29 + "S")))))
        self.assertEqual(joined(DOUBLED_60, (0, "E" * 29), "S", (30, "S" * 29)), (0, "E" * 29 + "S" * 30))

    def test_no_crossing(self):
        for crossing in (-1, 4, 10 ** 6):
            with self.assertRaises(NoCrossing) as caught:
                how_many_with(SQUARE, crossing)
            self.assertEqual(vars(caught.exception), {"crossing": crossing})
        with self.assertRaises(Unfit):
            how_many_with((), 4)

    def test_edges(self):
        self.assertEqual(stretches(LONE), [(0, "")])
        self.assertEqual(stretches(APART), [(0, ""), (1, "")])
        self.assertEqual(stretches(TWICE), [(0, ""), (0, "E"), (0, "S"), (1, "")])
        self.assertEqual(over_pieces(LONE, (0, "")), ((0, ""),))


class Going(unittest.TestCase):
    def test_goes(self):
        for city in MIDDLE:
            own = plain.all_stretches(city)
            for road in plain.all_roads(city)[:40]:
                words = plain.parts_of_road(city, road)
                for stretch in own[:60]:
                    self.assertEqual(goes(city, road, stretch), words.get(stretch))

    def test_low_and_high(self):
        for city in MIDDLE:
            for road in plain.all_roads(city):
                words = plain.parts_of_road(city, road)
                for found, word in ((low_passes(city, road), "low"), (high_passes(city, road), "high")):
                    self.assertEqual(found, tuple(sorted(own for own in words if words[own] == word)))
                    self.assertEqual(found, (low_passes if word == "low" else high_passes)(city, listed(road)))

    def test_low_along_under_pieces_high_along_over_pieces(self):
        for city in LITTLE:
            for road in plain.all_roads(city):
                for stretch in low_passes(city, road):
                    self.assertLessEqual(set(under_pieces(city, stretch)), set(low_passes(city, road)))
                for stretch in high_passes(city, road):
                    self.assertLessEqual(set(over_pieces(city, stretch)), set(high_passes(city, road)))
                self.assertFalse(set(low_passes(city, road)) & set(high_passes(city, road)))

    def test_sixty(self):
        road = ("W", 0, "SE" * 30)
        self.assertEqual(len(low_passes(DOUBLED_60, road)), 30 * 31 // 2)
        self.assertEqual(len(high_passes(DOUBLED_60, road)), 30 * 31 // 2)
        self.assertEqual(goes(DOUBLED_60, road, (0, "SE" * 29 + "S")), "across")
        self.assertEqual(goes(DOUBLED_60, road, (0, "SE" * 29)), "low")
        self.assertEqual(goes(DOUBLED_60, road, (1, "ES" * 29)), "high")
        self.assertIsNone(goes(DOUBLED_60, road, (1, "SE" * 29)))
        self.assertEqual(low_passes(SQUARE, ("W", 0, "EE")), ())


if __name__ == "__main__":
    unittest.main()

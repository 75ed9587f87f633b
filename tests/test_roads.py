"""Roads, promise 7."""

import unittest
from itertools import product
from math import comb

from neverbrush.errors import CanNot, NoCrossing, TooMany, Unfit
from neverbrush.floors import line, rectangle
from neverbrush.roads import behind, by_bends, how_many_roads, is_bent, is_road, longest, passes, road_at
from neverbrush.roads import road_number, road_of, roads, straight_roads, through, turns
from tests import plain
from tests.made import ALLEY, APART, DOUBLED_60, LONE, NAMED, ROADS_2000, ROADS_2001, SMALL, SQUARE, TWICE, Figures
from tests.made import listed, made_cities

MIDDLE = list(NAMED) + SMALL + made_cities(25, 7, 21)


class OneRoad(unittest.TestCase):
    def test_is_road(self):
        for city in MIDDLE:
            own = set(plain.all_roads(city))
            for road in own:
                self.assertIs(is_road(city, road), True)
                self.assertIs(is_road(listed(city), road), True)
                self.assertIs(is_road(city, list(road)), False)
                for other in ((road[0], road[1], road[2] + "E"), (road[0], road[1], road[2][:-1]),
                              (road[0], road[1] + 1, road[2]), ("N" if road[0] == "W" else "W", road[1], road[2]),
                              road[1:], road + (0,), (road[0], road[1], tuple(road[2])), (road[0], road[1], "")):
                    self.assertIs(is_road(city, other), other in own)

    def test_all_triples(self):
        for city in (SQUARE, TWICE, ALLEY, LONE):
            own = set(plain.all_roads(city))
            moves = ["".join(row) for many in range(5) for row in product("ES", repeat=many)]
            for road in product("WNES", range(-1, 5), moves):
                self.assertIs(is_road(city, road), road in own)

    def test_passes_turns_behind(self):
        for city in MIDDLE:
            for road in plain.all_roads(city):
                rows = plain.passes(city, road)
                self.assertEqual(passes(city, road), rows)
                self.assertEqual(turns(city, road), plain.turns(city, road))
                self.assertEqual(behind(city, road), (rows[-1][2], rows[-1][0]))
                self.assertIs(is_bent(city, road), plain.bends(city, road) > 0)
                self.assertEqual(turns(city, list(road)), turns(city, road))

    def test_turns_alternate(self):
        for city in MIDDLE:
            for road in plain.all_roads(city):
                table = turns(city, road)
                along = [table[own[0]] for own in passes(city, road) if table[own[0]] != 0]
                for one, other in zip(along, along[1:]):
                    self.assertEqual(one + other, 0)

    def test_road_of(self):
        for city in MIDDLE:
            for road in plain.all_roads(city):
                table = turns(city, road)
                if is_bent(city, road):
                    self.assertEqual(road_of(city, table), road)
                    self.assertEqual(road_of(city, list(table)), road)
                    for k in range(len(table)):
                        other = table[:k] + (table[k] * 2,) + table[k + 1:]
                        if other != table:
                            with self.assertRaises(CanNot):
                                road_of(city, other)

    def test_road_of_tries_all_tables(self):
        for city in SMALL + [SQUARE]:
            known = {plain.turns(city, road): road for road in plain.bent_roads(city)}
            self.assertEqual(len(known), len(plain.bent_roads(city)))
            for table in product((-2, -1, 0, 1, 2), repeat=plain.size(city)):
                if table in known:
                    self.assertEqual(road_of(city, table), known[table])
                else:
                    with self.assertRaises(CanNot) as caught:
                        road_of(city, table)
                    self.assertEqual(vars(caught.exception), {})

    def test_road_of_great_tables(self):
        for table in ((10 ** 6,) * 60, (-10 ** 6,) * 60, (0,) * 60, (1,) * 60):
            with self.assertRaises(CanNot):
                road_of(DOUBLED_60, table)
        self.assertEqual(road_of(DOUBLED_60, (1, -1) * 30), ("W", 0, "SE" * 30))
        self.assertEqual(road_of(DOUBLED_60, (0,) * 59 + (-1,)), ("N", 0, "S" * 59 + "E"))


class AllRoads(unittest.TestCase):
    def test_lists(self):
        for city in MIDDLE:
            everyone = plain.all_roads(city)
            self.assertEqual(roads(city), [road for road in everyone if plain.bends(city, road)])
            self.assertEqual(straight_roads(city), [road for road in everyone if not plain.bends(city, road)])
            self.assertEqual(len(straight_roads(city)), len(city[0]) + len(city[1]))

    def test_counts(self):
        for city in MIDDLE:
            everyone = plain.all_roads(city)
            own = [plain.bends(city, road) for road in everyone]
            self.assertEqual(how_many_roads(city), sum(1 for many in own if many))
            self.assertEqual(by_bends(city), tuple(own.count(k) for k in range(max(own) + 1)))
            self.assertEqual(by_bends(city)[1], 2 * plain.size(city))
            self.assertEqual(longest(city), max(len(road[2]) for road in everyone))

    def test_numbers(self):
        for city in MIDDLE:
            own = plain.bent_roads(city)
            for number, road in enumerate(own):
                self.assertEqual(road_at(city, number), road)
                self.assertEqual(road_number(city, road), number)
            for number in (-1, -len(own), len(own), len(own) + 1, 10 ** 40, -10 ** 40):
                with self.assertRaises(CanNot) as caught:
                    road_at(city, number)
                self.assertEqual(vars(caught.exception), {})
            for road in straight_roads(city):
                with self.assertRaises(CanNot) as caught:
                    road_number(city, road)
                self.assertEqual(vars(caught.exception), {})

    def test_through(self):
        for city in MIDDLE:
            rows = [own for road in plain.all_roads(city) for own in plain.passes(city, road)]
            for crossing in range(plain.size(city)):
                self.assertEqual(through(city, crossing), tuple(
                    rows.count((crossing, side, way)) for side in "NW" for way in "ES"))

    def test_no_crossing(self):
        for crossing in (-1, 4, 10 ** 6):
            with self.assertRaises(NoCrossing) as caught:
                through(SQUARE, crossing)
            self.assertEqual(vars(caught.exception), {"crossing": crossing})
        with self.assertRaises(Unfit):
            through(SQUARE, True)

    def test_just_so_many(self):
        self.assertEqual(how_many_roads(ROADS_2000), 2000)
        found = roads(ROADS_2000)
        self.assertEqual(found, plain.bent_roads(ROADS_2000))
        found.clear()
        self.assertEqual(len(roads(ROADS_2000)), 2000)
        self.assertEqual(how_many_roads(ROADS_2001), 2001)
        for city in (ROADS_2001, DOUBLED_60, rectangle(6, 10)):
            with self.assertRaises(TooMany) as caught:
                roads(city)
            self.assertEqual(vars(caught.exception), {})
        self.assertEqual(road_at(ROADS_2001, 2000), plain.bent_roads(ROADS_2001)[2000])

    def test_edges(self):
        self.assertEqual(roads(LONE), [("N", 0, "E"), ("W", 0, "S")])
        self.assertEqual(straight_roads(LONE), [("N", 0, "S"), ("W", 0, "E")])
        self.assertEqual((by_bends(LONE), longest(LONE), through(LONE, 0)), ((2, 2), 1, (1, 1, 1, 1)))
        self.assertEqual((by_bends(APART), longest(APART), how_many_roads(APART)), ((4, 4), 1, 4))
        self.assertEqual(turns(TWICE, ("N", 0, "SE")), (0, -1))


class Sixty(unittest.TestCase):
    def test_doubled_throughout(self):
        many = 2 ** 61 - 2
        self.assertEqual(how_many_roads(DOUBLED_60), many)
        self.assertEqual(by_bends(DOUBLED_60), tuple(2 * comb(60, k) for k in range(61)))
        self.assertEqual(longest(DOUBLED_60), 60)
        self.assertEqual(road_at(DOUBLED_60, 0), ("N", 0, "E" * 60))
        self.assertEqual(road_at(DOUBLED_60, many - 1), ("W", 0, "S" * 60))
        for crossing in (0, 1, 30, 59):
            side, way = 2 ** crossing, 2 ** (59 - crossing)
            self.assertEqual(through(DOUBLED_60, crossing), (side * way,) * 4)
        self.assertEqual(straight_roads(DOUBLED_60), [("N", 0, "S" * 60), ("W", 0, "E" * 60)])

    def test_numbers_of_doubled_city(self):
        figures = Figures(31)
        rows = []
        for _ in range(200):
            road = (figures.one_of("NW"), 0, "".join(figures.one_of("ES") for _ in range(60)))
            number = road_number(DOUBLED_60, road)
            bits = int("".join("01"["ES".index(own)] for own in road[2]), 2)
            wanted = bits if road[0] == "N" else 2 ** 60 - 1 + bits - 1
            self.assertEqual(number, wanted)
            self.assertEqual(road_at(DOUBLED_60, number), road)
            rows.append((number, road))
        self.assertEqual([road for _, road in sorted(rows)], sorted(road for _, road in rows))
        for number in (-1, 2 ** 61 - 2, 2 ** 61):
            with self.assertRaises(CanNot):
                road_at(DOUBLED_60, number)

    def test_numbers_of_great_cities(self):
        for city in made_cities(6, 60, 33) + [rectangle(6, 10), line("E" * 59), line("")]:
            many, figures = how_many_roads(city), Figures(32)
            self.assertEqual(sum(by_bends(city)[1:]), many)
            last = None
            for number in sorted({figures.below(many) for _ in range(40)} | {0, many - 1}):
                road = road_at(city, number)
                self.assertIs(is_road(city, road), True)
                self.assertIs(is_bent(city, road), True)
                self.assertEqual(road_number(city, road), number)
                self.assertEqual(road_of(city, turns(city, road)), road)
                self.assertTrue(last is None or last < road)
                last = road
            for crossing in range(plain.size(city)):
                first, second, third, fourth = through(city, crossing)
                self.assertEqual(first * fourth, second * third)

    def test_one_street(self):
        city = line("E" * 59)
        self.assertEqual(how_many_roads(city), 60 * 63 // 2)
        self.assertEqual(len(roads(city)), 60 * 63 // 2)
        self.assertEqual(longest(city), 60)


if __name__ == "__main__":
    unittest.main()

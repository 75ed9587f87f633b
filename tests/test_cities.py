"""Cities, promise 5."""

import unittest
from itertools import combinations

from neverbrush.cities import ahead_one, beginnings, by_links, ends, how_many, is_city, links, next_one
from neverbrush.cities import parts, reached, streets_of
from neverbrush.errors import CanNot, NoCrossing, Unfit
from tests import plain
from tests.made import APART, DOUBLED_60, LONE, NAMED, SMALL, SQUARE, TWICE, listed, made_cities

MANY = list(NAMED) + SMALL + made_cities(60, 12, 3) + made_cities(5, 60, 4) + [DOUBLED_60]


class Told(unittest.TestCase):
    def test_is_city(self):
        for city in MANY:
            self.assertIs(is_city(city), True)
            self.assertIs(is_city(listed(city)), False)
            self.assertIs(is_city(list(city)), False)
        many = 3000
        self.assertIs(is_city(((tuple(range(many)),), tuple((k,) for k in range(many)))), True)
        self.assertIs(is_city(((tuple(range(many)),), tuple((k,) for k in range(1, many)))), False)
        self.assertIs(is_city((((0, 1),), ((0,), (True,)))), False)
        self.assertIs(is_city((((0, True),), ((0,), (1,)))), False)
        self.assertIs(is_city((((0, 1),), ([0], (1,)))), False)
        self.assertIs(is_city((((0, 1),), ((1,), (0,)))), False)

    def test_is_city_tries_all(self):
        rows = [(), (0,), (1,), (2,), (0, 1), (1, 0), (0, 2), (1, 2), (0, 0), (0, 1, 2)]
        sets = [own for many in range(4) for own in combinations(rows, many)]
        good = set(SMALL)
        for east in sets:
            for south in (((0,),), ((0, 1),), ((0,), (1,)), ((0, 1, 2),), ((0, 2), (1,)), ()):
                self.assertIs(is_city((east, south)), (east, south) in good)

    def test_how_many(self):
        for city in MANY:
            self.assertEqual(how_many(city), plain.size(city))
        self.assertEqual(how_many(LONE), 1)
        self.assertEqual(how_many(DOUBLED_60), 60)

    def test_streets_of(self):
        for city in MANY:
            for crossing in range(plain.size(city)):
                east, south = streets_of(city, crossing)
                self.assertIn(east, city[0])
                self.assertIn(south, city[1])
                self.assertIn(crossing, east)
                self.assertIn(crossing, south)

    def test_next_and_ahead(self):
        for city in MANY:
            there = plain.nexts(city)
            for way, side in (("E", "W"), ("S", "N")):
                for crossing in range(plain.size(city)):
                    own = next_one(city, crossing, way)
                    self.assertEqual(own, there[way][crossing])
                    if own is not None:
                        self.assertGreater(own, crossing)
                        self.assertEqual(ahead_one(city, own, side), crossing)
                    back = ahead_one(city, crossing, side)
                    if back is None:
                        self.assertNotIn(crossing, there[way].values())
                    else:
                        self.assertEqual(next_one(city, back, way), crossing)

    def test_beginnings_and_ends(self):
        for city in MANY:
            streets = len(city[0]) + len(city[1])
            self.assertEqual(beginnings(city), tuple(sorted(
                [("W", own[0]) for own in city[0]] + [("N", own[0]) for own in city[1]])))
            self.assertEqual(ends(city), tuple(sorted(
                [(own[-1], "E") for own in city[0]] + [(own[-1], "S") for own in city[1]])))
            self.assertEqual((len(beginnings(city)), len(ends(city))), (streets, streets))

    def test_no_crossing(self):
        for city in (LONE, SQUARE, DOUBLED_60):
            for crossing in (-1, -plain.size(city), plain.size(city), 10 ** 6, -10 ** 30):
                for call in (lambda: streets_of(city, crossing), lambda: next_one(city, crossing, "E"),
                             lambda: ahead_one(city, crossing, "N"), lambda: reached(city, crossing)):
                    with self.assertRaises(NoCrossing) as caught:
                        call()
                    self.assertEqual(vars(caught.exception), {"crossing": crossing})

    def test_unfit_ahead_of_no_crossing(self):
        for call in (lambda: next_one(SQUARE, 9, "W"), lambda: next_one(SQUARE, True, "E"),
                     lambda: next_one((), 9, "E"), lambda: ahead_one(SQUARE, 9, "E"),
                     lambda: streets_of((), 9), lambda: streets_of(SQUARE, "9"), lambda: reached(SQUARE, None)):
            with self.assertRaises(Unfit):
                call()


class Linked(unittest.TestCase):
    def test_there_and_back(self):
        for city in MANY:
            east, south = links(city)
            self.assertEqual(by_links(plain.size(city), east, south), city)
            self.assertEqual(by_links(plain.size(city), listed(east), list(south)), city)
            self.assertEqual([east, south], [tuple(sorted(
                (street[k], street[k + 1]) for street in streets for k in range(len(street) - 1)))
                for streets in city])

    def test_all_links_of_three_crossings(self):
        pairs = ((0, 1), (0, 2), (1, 2))
        found = []
        for east in [own for many in range(4) for own in combinations(pairs, many)]:
            is_good = len({own[0] for own in east}) == len({own[1] for own in east}) == len(east)
            for one, other in ((east, ()), ((), east)):
                if is_good:
                    city = by_links(3, one, other)
                    self.assertEqual(links(city), (one, other))
                    found.append(city)
                else:
                    with self.assertRaises(CanNot) as caught:
                        by_links(3, one, other)
                    self.assertEqual(vars(caught.exception), {})
        self.assertEqual(len(set(found)), 2 * 5 - 1)

    def test_edges(self):
        self.assertEqual(by_links(1, (), ()), LONE)
        self.assertEqual(by_links(2, (), ()), APART)
        self.assertEqual(by_links(2, ((0, 1),), ((0, 1),)), TWICE)
        chain = tuple((k, k + 1) for k in range(59))
        self.assertEqual(by_links(60, chain, chain), DOUBLED_60)
        self.assertEqual(by_links(60, (), ()), (tuple((k,) for k in range(60)),) * 2)

    def test_unfit_ahead_of_can_not(self):
        twice = ((0, 1), (0, 2))
        for many, east, south in ((0, (), ()), (True, (), ()), (2, twice, ()), (3, twice, ((1, 0),)),
                                  (3, ((1, 2), (0, 2)), ()), (3, (), ((0, 3),)), (3, twice, None),
                                  (3, twice, ((0, True),)), (3, ((0, 1), (0, 1)), ())):
            with self.assertRaises(Unfit):
                by_links(many, east, south)
        for east, south in ((twice, ()), ((), twice), (((0, 2), (1, 2)), ()), ((), ((0, 2), (1, 2)))):
            with self.assertRaises(CanNot):
                by_links(3, east, south)


class Reached(unittest.TestCase):
    def test_reached(self):
        for city in MANY:
            there = plain.nexts(city)
            for crossing in range(plain.size(city)):
                known = {crossing}
                for at in range(crossing, plain.size(city)):
                    if at in known:
                        known.update(there[way][at] for way in "ES" if there[way][at] is not None)
                self.assertEqual(reached(city, crossing), tuple(sorted(known)))

    def test_parts(self):
        for city in MANY:
            own = parts(city)
            self.assertEqual(own, tuple(sorted(own)))
            self.assertEqual(sorted(k for part in own for k in part), list(range(plain.size(city))))
            where = {k: number for number, part in enumerate(own) for k in part}
            pairs = [pair for pairs in links(city) for pair in pairs]
            for one, other in pairs:
                self.assertEqual(where[one], where[other])
            for part in own:
                self.assertEqual(part, tuple(sorted(part)))
                known = {part[0]}
                for _ in part:
                    for pair in pairs:
                        if known.intersection(pair):
                            known.update(pair)
                self.assertEqual(known, set(part))

    def test_edges(self):
        self.assertEqual(parts(LONE), ((0,),))
        self.assertEqual(parts(APART), ((0,), (1,)))
        self.assertEqual(parts(DOUBLED_60), (tuple(range(60)),))
        self.assertEqual(reached(DOUBLED_60, 58), (58, 59))
        self.assertEqual(parts((((0, 2), (1, 3)), ((0,), (1,), (2,), (3,)))), ((0, 2), (1, 3)))


if __name__ == "__main__":
    unittest.main()

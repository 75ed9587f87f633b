"""One solid, promise 21."""

import unittest
from itertools import product

from neverbrush.bags import bag
from neverbrush.climbs import is_below
from neverbrush.errors import CanNot, NoRoad, TooMany
from neverbrush.exchange import exchange_of, exchanged
from neverbrush.floors import line
from neverbrush.forms import form_of, home
from neverbrush.lots import greatest_lot, is_full, least_lot
from neverbrush.roads import how_many_roads, turns
from neverbrush.solid import best_lot, best_worth, corner, edge, height, is_best, is_corner, lot_at, worth
from tests import plain
from tests.checks import Checks
from tests.made import ALLEY, DOUBLED_60, LONE, ODD_THINGS, ROADS_2000, ROADS_2001, SIXTIES, SQUARE, TWICE, Figures
from tests.made import deep_list, listed, made_cities, made_table
from tests.plain_lots import LITTLE, town

FOUR = (("N", 1, "E"), ("W", 0, "SS"), ("W", 2, "ES"), ("W", 2, "S"))


def times(table, other):
    return sum(one * more for one, more in zip(table, other))


def heights_by_trying(city):
    """The height of each ROAD, by trying all bent ROADS and all STRETCHES."""
    own = town(city)
    parts = {road: plain.parts_of_road(city, road) for road in plain.all_roads(city)}
    against = {"low": "high", "high": "low"}
    return {road: sum(1 for other in own.roads for part, word in parts[road].items()
                      if word in against and parts[other].get(part) == against[word]) for road in parts}


HEIGHTS = {city: heights_by_trying(city) for city in LITTLE}


def corners_of(city):
    """By FULL LOT its CORNER, from the CORNERS asked for; each is judged in a test."""
    return {lot: corner(city, lot) for lot in town(city).fulls}


class Heights(Checks):
    def test_by_trying(self):
        for city in LITTLE:
            for road, known in HEIGHTS[city].items():
                self.assertEqual(height(city, road), known)
                self.assertEqual(height(listed(city), list(road)), known)
                self.assertEqual(known == 0, plain.bends(city, road) == 0)

    def test_moved_roads_have_the_same(self):
        other = {"E": "S", "S": "E", "N": "W", "W": "N"}
        for city in LITTLE:
            last = plain.size(city) - 1
            sides = city[::-1]
            about = tuple(tuple(sorted(tuple(sorted(last - own for own in street)) for street in streets))
                          for streets in city)
            for road, known in HEIGHTS[city].items():
                rows = plain.passes(city, road)
                turned = "".join({"W": "E", "N": "S"}[side] for _, side, _ in reversed(rows))
                back = ({"E": "W", "S": "N"}[rows[-1][2]], last - rows[-1][0], turned)
                self.assertEqual(height(about, back), known)
                self.assertEqual(height(sides, (other[road[0]], road[1], "".join(other[own] for own in road[2]))), known)

    def test_sixty(self):
        self.assertEqual(height(DOUBLED_60, ("W", 0, "E" * 60)), 0)
        self.assertEqual(height(DOUBLED_60, ("N", 0, "S" * 60)), 0)
        for road, known in ((("W", 0, "E" * 59 + "S"), 2 ** 60 - 1), (("W", 0, "S" * 60), 2 ** 60 - 1),
                            (("N", 0, "S" * 10 + "E" * 50), (2 ** 11 - 1) * (2 ** 50 - 1))):
            self.assertEqual(height(DOUBLED_60, road), known)
        self.assertEqual([height(line("E" * 59), ("W", 0, "E" * k + "S")) for k in range(60)],
                         [(k + 1) * (60 - k) for k in range(60)])
        self.assertEqual(height(LONE, ("W", 0, "S")), 1)


class Corners(Checks):
    def test_worth_the_heights_at_its_roads(self):
        for city in LITTLE:
            own = town(city)
            found = corners_of(city)
            self.assertEqual(len(set(found.values())), len(own.fulls))
            for lot, table in found.items():
                self.assertEqual(corner(listed(city), listed(lot)), table)
                for road in own.roads:
                    at = times(table, own.turns[road])
                    if road in lot:
                        self.assertEqual(at, HEIGHTS[city][road])
                    else:
                        self.assertLess(at, HEIGHTS[city][road])

    def test_edges_by_the_corners(self):
        for city in LITTLE:
            own, found = town(city), corners_of(city)
            for lot in own.fulls:
                for k, road in enumerate(lot):
                    stretch, number = edge(city, lot, road)
                    self.assertEqual(stretch, own.forms[lot][k][0])
                    self.assertGreater(number, 0)
                    other = exchanged(city, lot, road)
                    low, high = (lot, other) if own.forms[lot][k][1] == 1 else (other, lot)
                    along = plain.crossings(city, stretch)
                    for at, (one, less) in enumerate(zip(found[low], found[high])):
                        self.assertEqual(one - less, number if at in along else 0)
                    self.assertEqual(edge(listed(city), listed(lot), list(road)), (stretch, number))

    def test_worth(self):
        figures = Figures(211)
        for city in LITTLE:
            for size in (3, 10 ** 6):
                table, prices = made_table(figures, plain.size(city), size), made_table(figures, plain.size(city), size)
                self.assertEqual(worth(city, table, prices), times(table, prices))
                self.assertEqual(worth(city, list(table), list(prices)), times(table, prices))
        self.assertEqual(worth(DOUBLED_60, (10 ** 6,) * 60, (-10 ** 6,) * 60), -60 * 10 ** 12)
        self.assertEqual(worth(SQUARE, (0, 0, 0, 0), (1, 2, 3, 4)), 0)

    def test_is_corner_and_lot_at(self):
        figures = Figures(212)
        for city in LITTLE:
            found = corners_of(city)
            known = {table: lot for lot, table in found.items()}
            for table, lot in known.items():
                self.assertIs(is_corner(city, table), True)
                self.assertIs(is_corner(city, list(table)), False)
                self.assertEqual(lot_at(city, table), lot)
                self.assertEqual(lot_at(listed(city), list(table)), lot)
            others = list(product(range(-1, 3), repeat=plain.size(city)))[::5]
            for table in list(known):
                k = figures.below(len(table))
                others.append(table[:k] + (table[k] + figures.one_of((1, -1, 2)),) + table[k + 1:])
            for table in others:
                self.assertIs(is_corner(city, table), table in known)
                if table not in known:
                    self.raises(CanNot, {}, lot_at, city, table)

    def test_is_corner_of_odd_things(self):
        for thing in ODD_THINGS + ((3, 0, 3, 0), (3, 0), (3, 0, None), (3, 0, "3"), (3, False, 3), (3, 0, 3.5), ((3, 0, 3),)):
            self.assertIs(is_corner(ALLEY, thing), False)
        self.assertIs(is_corner(ALLEY, (3, 0, 3)), True)
        self.assertIs(is_corner(LONE, (1,)), True)
        self.assertIs(is_corner(LONE, (True,)), False)
        self.assertIs(is_corner(LONE, (-1,)), True)
        self.assertIs(is_corner(LONE, (0,)), False)

    def test_just_so_many_roads(self):
        self.assertEqual(how_many_roads(ROADS_2000), 2000)
        for lot in (least_lot(ROADS_2000), greatest_lot(ROADS_2000), home(ROADS_2000, made_table(Figures(213), 42, 9))):
            table = corner(ROADS_2000, lot)
            self.assertIs(is_corner(ROADS_2000, table), True)
            self.assertEqual(lot_at(ROADS_2000, table), lot)
            self.assertIs(is_corner(ROADS_2000, (table[0] + 1,) + table[1:]), False)
        self.raises(CanNot, {}, lot_at, ROADS_2000, (0,) * 42)
        for city in (ROADS_2001, DOUBLED_60):
            table = corner(city, least_lot(city))
            for own in (table, (0,) * plain.size(city)):
                self.raises(TooMany, {}, lot_at, city, own)
            for thing in (table, list(table), None, deep_list(0, 20), "x" * 5000, table[1:]):
                self.raises(TooMany, {}, is_corner, city, thing)
            self.unfit(lot_at, city, table[1:])
            self.unfit(lot_at, city, None)

    def test_sixty(self):
        figures = Figures(214)
        for city in SIXTIES + made_cities(5, 60, 215):
            many = plain.size(city)
            for lot in (home(city, made_table(figures, many, 40)), least_lot(city), greatest_lot(city)):
                table = corner(city, lot)
                for road in lot:
                    self.assertEqual(times(table, turns(city, road)), height(city, road))
                for road in lot[::9]:
                    other = exchanged(city, lot, road)
                    stretch, number = edge(city, lot, road)
                    self.assertEqual(stretch, exchange_of(city, lot, road)[2])
                    sign = form_of(city, lot, road)[1]
                    along = plain.crossings(city, stretch)
                    known = tuple(one - sign * number if at in along else one for at, one in enumerate(table))
                    self.assertEqual(corner(city, other), known)
                    come, = [own for own in other if own not in lot]
                    self.assertLess(times(table, turns(city, come)), height(city, come))


class Best(Checks):
    def test_beside_all_full_lots(self):
        figures = Figures(216)
        for city in LITTLE:
            own, found = town(city), corners_of(city)
            many = own.size
            tables = [(0,) * many, (1,) * many, (-1,) * many] + [made_table(figures, many) for _ in range(6)]
            for prices in tables + [own.turns[road] for road in own.roads[:3]]:
                most = max(times(table, prices) for table in found.values())
                self.assertEqual(best_worth(city, prices), most)
                self.assertEqual(best_worth(listed(city), list(prices)), most)
                heights = HEIGHTS[city]
                roads = bag(city, prices)
                self.assertEqual(most, sum(often * heights[road] for road, often in roads))
                best = [lot for lot in own.fulls if times(found[lot], prices) == most]
                for lot in own.fulls:
                    self.assertIs(is_best(city, lot, prices), lot in best)
                    self.assertEqual(lot in best, {road for road, _ in roads} <= set(lot))
                least = [lot for lot in best if set(best) <= own.above(lot)]
                self.assertEqual([best_lot(city, prices)], least)
                self.assertEqual([best_lot(city, list(prices))], least)

    def test_sixty(self):
        figures = Figures(217)
        for city in SIXTIES:
            for size in (1, 10 ** 6):
                prices = made_table(figures, 60, size)
                lot = best_lot(city, prices)
                self.assertIs(is_full(city, lot), True)
                self.assertIs(is_best(city, lot, prices), True)
                self.assertEqual(best_worth(city, prices), times(corner(city, lot), prices))
                self.assertLessEqual({road for road, _ in bag(city, prices)}, set(lot))
                for other in (least_lot(city), greatest_lot(city), home(city, made_table(figures, 60, 9))):
                    at = times(corner(city, other), prices)
                    self.assertLessEqual(at, best_worth(city, prices))
                    self.assertIs(is_best(city, other, prices), at == best_worth(city, prices))
            self.assertEqual(best_worth(city, (0,) * 60), 0)
            self.assertEqual(best_lot(city, (0,) * 60), least_lot(city))
            self.assertIs(is_best(city, greatest_lot(city), (0,) * 60), True)
            greatest = greatest_lot(city)
            inner = tuple(map(sum, zip(*(turns(city, road) for road in greatest))))
            self.assertEqual(best_lot(city, inner), greatest)
            self.assertIs(is_below(city, best_lot(city, (0,) * 60), greatest), True)


class Wrong(Checks):
    def test_no_road(self):
        for road in (("N", 0, "EE"), ("W", 0, "EE"), ("N", 0, "SES")):
            self.raises(NoRoad, {"road": road}, edge, SQUARE, FOUR, road)
            self.raises(NoRoad, {"road": road}, edge, listed(SQUARE), listed(FOUR), list(road))
            self.unfit(edge, SQUARE, FOUR[1:], road)
            self.unfit(edge, (), FOUR, road)
        self.unfit(edge, SQUARE, FOUR, ("W", 0, "S"))
        self.unfit(edge, SQUARE, FOUR[:3], FOUR[0])

    def test_order_of_the_checks(self):
        self.unfit(height, SQUARE, ("W", 1, "S"))
        self.unfit(corner, SQUARE, FOUR[1:])
        self.unfit(worth, SQUARE, (0, 0, 0), (0, 0, 0, 0))
        self.unfit(worth, SQUARE, (0, 0, 0, 0), (0, 0, 0))
        self.unfit(is_best, SQUARE, FOUR, (0, 0, 0))
        self.unfit(is_best, SQUARE, (), (0, 0, 0, 0))
        self.unfit(best_lot, SQUARE, (0, 0, 0, True))
        self.unfit(best_worth, TWICE, (0, 0, 0, 0))
        self.unfit(is_corner, ((0,), (0,)), (1,))


if __name__ == "__main__":
    unittest.main()

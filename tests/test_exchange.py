"""Exchanges, promise 13."""

import unittest

from neverbrush.bags import bag
from neverbrush.brushing import brushes, do_brush
from neverbrush.errors import CanNot, NoRoad
from neverbrush.exchange import exchange_of, exchange_to, exchanged, exchanges, is_exchange, is_wall, newcomer
from neverbrush.exchange import resolved, sides, wall_bag
from neverbrush.forms import form_of, home
from neverbrush.lots import greatest_lot, is_full, least_lot
from neverbrush.roads import is_bent, is_road, turns
from tests import plain
from tests.checks import Checks
from tests.made import LONE, SIXTIES, SQUARE, Figures, listed, listed_below, made_cities, made_table
from tests.plain_lots import LITTLE, town

FOUR = (("N", 1, "E"), ("W", 0, "SS"), ("W", 2, "ES"), ("W", 2, "S"))


def added(table, other):
    return tuple(one + more for one, more in zip(table, other))


def big_lots():
    figures = Figures(131)
    found = [(city, home(city, made_table(figures, plain.size(city), 40)))
             for city in SIXTIES + made_cities(10, 60, 132)]
    return found + [(SIXTIES[0], least_lot(SIXTIES[0])), (SIXTIES[1], greatest_lot(SIXTIES[1]))]


class InSmallCities(Checks):
    def test_newcomers_by_trying_all_roads(self):
        for city in LITTLE:
            own = town(city)
            for lot in own.fulls:
                for k, road in enumerate(lot):
                    wall = lot[:k] + lot[k + 1:]
                    known = [other for other in own.more_for(wall) if other != road]
                    self.assertEqual(known, [newcomer(city, lot, road)])
                    there = tuple(sorted(wall + (known[0],)))
                    self.assertEqual(exchanged(city, lot, road), there)
                    self.assertEqual(newcomer(city, there, known[0]), road)
                    self.assertEqual(exchange_of(city, lot, road), own.exchange(lot, there))
                    self.assertEqual(exchange_of(city, there, known[0]), own.exchange(lot, there))

    def test_lists_of_exchanges(self):
        for city in LITTLE:
            for lot in town(city).fulls:
                row = exchanges(city, lot)
                self.assertIsInstance(row, list)
                self.assertEqual(row, [exchange_of(city, lot, road) for road in lot])
                for step in row:
                    self.assertIs(is_exchange(city, lot, step), True)
                    low, high, stretch = step
                    for thing in (list(step), (high, low, stretch), listed_below(step, 1), (low, high), [step],
                                  (low, high, stretch, 0), (low, high, (stretch[0] == 0, stretch[1])), None, ()):
                        self.assertIs(is_exchange(city, lot, thing), False)
                    road, sign = (low, 1) if low in lot else (high, -1)
                    self.assertEqual(form_of(city, lot, road), (stretch, sign))

    def test_exchange_to(self):
        for city in LITTLE:
            own = town(city)
            for lot in own.fulls[:30]:
                for other in own.fulls[::2]:
                    step = own.exchange(lot, other)
                    if step is None:
                        self.raises(CanNot, {}, exchange_to, city, lot, other)
                    else:
                        self.assertEqual(exchange_to(city, lot, other), step)
                        self.assertEqual(exchange_to(city, listed(other), listed(lot)), step)

    def test_resolved_wherever_it_can_be(self):
        for city in LITTLE[:30]:
            own = town(city)
            everyone = plain.all_roads(city)[:14]
            for road in everyone:
                for other in everyone:
                    known = {part for part, word in plain.brushing(city, road, other) if word == "low"}
                    words = {part for part, word in plain.parts_of_road(city, road).items() if word == "low"}
                    more = {part for part, word in plain.parts_of_road(city, other).items() if word == "high"}
                    self.assertEqual(known, words & more)
                    for stretch in own.stretches:
                        if stretch in known:
                            self.check_resolved(city, road, other, stretch)
                        else:
                            self.raises(CanNot, {}, resolved, city, road, other, stretch)

    def check_resolved(self, city, road, other, stretch):
        last = plain.crossings(city, stretch)[-1]
        cuts = [[own[0] for own in plain.passes(city, one)].index(last) for one in (road, other)]
        first, second = resolved(city, road, other, stretch)
        self.assertEqual(first, road[:2] + (road[2][:cuts[0]] + other[2][cuts[1]:],))
        self.assertEqual(second, other[:2] + (other[2][:cuts[1]] + road[2][cuts[0]:],))
        self.assertTrue(is_road(city, first) and is_road(city, second))
        self.assertEqual(added(turns(city, first), turns(city, second)), added(turns(city, road), turns(city, other)))

    def test_walls(self):
        for city in LITTLE:
            own = town(city)
            for lot in own.lots:
                is_one = len(lot) == own.size - 1
                self.assertIs(is_wall(city, lot), is_one)
                if is_one:
                    self.assertIs(is_wall(city, list(lot)), False)
                    full = [other for other in own.fulls if set(lot) <= set(other)]
                    ahead = [other for other in full if own.exchange(other, full[other == full[0]])[0] in other]
                    behind = [other for other in full if other not in ahead]
                    self.assertEqual([len(ahead), len(behind)], [1, 1])
                    self.assertEqual(sides(city, lot), (ahead[0], behind[0]))
                    self.assertEqual(sides(listed(city), listed(lot)), (ahead[0], behind[0]))
                else:
                    self.unfit(sides, city, lot)


class Everywhere(Checks):
    def test_one_stretch_and_the_resolved_ones(self):
        for city, lot in big_lots() + [(city, lot) for city in LITTLE for lot in town(city).fulls[::4]]:
            tables = [turns(city, road) for road in lot]
            row = exchanges(city, lot)
            for k in list(range(len(lot)))[::1 if len(lot) < 9 else 5]:
                low, high, stretch = row[k]
                other = newcomer(city, lot, lot[k])
                self.assertEqual((low, high) if low == lot[k] else (high, low), (lot[k], other))
                self.assertEqual(brushes(city, low, high), ((stretch, "low"),))
                along = plain.crossings(city, stretch)
                sums = [sum(table[own] for own in along) for table in tables]
                self.assertEqual([n for n, own in enumerate(sums) if own], [k])
                self.check_resolved_in(city, lot, row[k])
                there = exchanged(city, lot, lot[k])
                self.assertIs(is_full(city, there), True)
                self.assertEqual(set(there), set(lot) - {lot[k]} | {other})
                self.assertEqual(exchange_to(city, lot, there), row[k])
                wall = tuple(road for road in lot if road != lot[k])
                self.assertIs(is_wall(city, wall), True)
                self.assertEqual(sides(city, wall), (lot, there) if low == lot[k] else (there, lot))

    def check_resolved_in(self, city, lot, step):
        low, high, stretch = step
        both = resolved(city, low, high, stretch)
        bent = [road for road in both if is_bent(city, road)]
        for road in bent:
            self.assertIn(road, lot)
            self.assertFalse(do_brush(city, road, low) or do_brush(city, road, high))
        total = added(turns(city, low), turns(city, high))
        self.assertEqual(added(turns(city, both[0]), turns(city, both[1])), total)
        for road in (low, high):
            if road in lot:
                self.assertEqual(wall_bag(city, lot, road), bag(city, total))
                self.assertEqual({own for own, _ in wall_bag(city, lot, road)}, set(bent))

    def test_edges(self):
        self.assertEqual(newcomer(LONE, (("W", 0, "S"),), ("W", 0, "S")), ("N", 0, "E"))
        self.assertEqual(exchanges(LONE, (("N", 0, "E"),)), [(("W", 0, "S"), ("N", 0, "E"), (0, ""))])
        self.assertEqual(sides(LONE, ()), ((("W", 0, "S"),), (("N", 0, "E"),)))
        self.assertEqual(wall_bag(LONE, (("W", 0, "S"),), ("W", 0, "S")), ())
        self.assertIs(is_wall(LONE, ()), True)
        self.assertIs(is_wall(LONE, []), False)
        self.assertIs(is_wall(SQUARE, FOUR[1:]), True)
        self.assertIs(is_wall(SQUARE, tuple(town(SQUARE).roads) * 3000), False)


class Wrong(Checks):
    def test_no_road(self):
        for function in (newcomer, exchanged, exchange_of, wall_bag):
            for road in (("N", 0, "EE"), ("W", 0, "EE"), ("N", 1, "SE")):
                self.raises(NoRoad, {"road": road}, function, SQUARE, FOUR, road)
                self.raises(NoRoad, {"road": road}, function, SQUARE, listed(FOUR), list(road))
            self.unfit(function, SQUARE, FOUR, ("W", 0, "S"))
            self.unfit(function, SQUARE, FOUR[1:], FOUR[1])
            self.unfit(function, SQUARE, FOUR[1:], ("N", 0, "EE"))
            self.unfit(function, (), FOUR, FOUR[0])

    def test_other_errors(self):
        self.unfit(exchanges, SQUARE, ())
        self.unfit(exchange_to, SQUARE, FOUR, FOUR[1:])
        self.unfit(exchange_to, SQUARE, FOUR[1:], FOUR)
        self.raises(CanNot, {}, exchange_to, SQUARE, FOUR, FOUR)
        self.raises(CanNot, {}, exchange_to, SQUARE, FOUR, greatest_lot(SQUARE))
        self.raises(CanNot, {}, resolved, SQUARE, ("W", 0, "EE"), ("N", 0, "SS"), (0, ""))
        self.unfit(resolved, SQUARE, ("W", 0, "EE"), ("N", 0, "SS"), (0, "EE"))
        self.unfit(resolved, SQUARE, ("W", 0, "S"), ("N", 0, "SS"), (0, ""))
        for wall in (FOUR, FOUR[2:], (), FOUR[:0:-1], (("W", 0, "EE"),) * 3):
            self.unfit(sides, SQUARE, wall)


if __name__ == "__main__":
    unittest.main()

"""Lots, promise 10."""

import unittest
from itertools import combinations, product

from neverbrush.brushing import do_brush
from neverbrush.cities import parts
from neverbrush.errors import CanNot, TooMany
from neverbrush.floors import line, rectangle
from neverbrush.forms import home, inner_table
from neverbrush.lots import barred_by, brushing_pair, finished, full_lots, goes_with, greatest_lot, how_many_full
from neverbrush.lots import is_full, is_lot, least_lot, lots_by_size, put_to
from neverbrush.roads import how_many_roads
from tests import plain
from tests.checks import Checks
from tests.made import APART, DOUBLED_60, LONE, LOTS_2000, LOTS_2002, ROADS_2000, ROADS_2001, SIXTIES, SQUARE, TWICE
from tests.made import Figures, listed, listed_below, made_cities, made_table
from tests.plain_lots import LITTLE, town


def low_in_turn(city, roads):
    """The least pair (road, other) of roads, road going low along a STRETCH, other high; None if there is none."""
    for road in roads:
        for other in roads:
            if any(word == "low" for _, word in plain.brushing(city, road, other)):
                return (road, other)
    return None


class TheLots(Checks):
    def test_lots_are_roads_no_two_of_which_brush(self):
        for city in LITTLE:
            own, known = town(city), set(town(city).lots)
            for many in range(4):
                for roads in combinations(own.roads[:9], many):
                    self.assertIs(is_lot(city, roads), not any(pair in own.bad for pair in combinations(roads, 2)))
                    self.assertIs(is_lot(city, roads), roads in known)
            for lot in own.lots:
                self.assertIs(is_lot(city, lot), True)
                self.assertIs(is_full(city, lot), lot in own.fulls)

    def test_full_exactly_with_so_many_roads(self):
        for city in LITTLE:
            own = town(city)
            self.assertEqual(own.fulls, [lot for lot in own.lots if len(lot) == own.size])
            self.assertEqual(full_lots(city), tuple(own.fulls))
            self.assertEqual(how_many_full(city), len(own.fulls))
            self.assertEqual(lots_by_size(city), tuple(sum(1 for lot in own.lots if len(lot) == many)
                                                       for many in range(own.size + 1)))

    def test_no_lots(self):
        for city in LITTLE[:12]:
            own = town(city)
            for lot in own.fulls[:5]:
                self.assertIs(is_lot(city, lot[::-1]), len(lot) == 1)
                self.assertIs(is_lot(city, lot + lot[-1:]), False)
                self.assertIs(is_full(city, lot + own.more_for(lot[1:])[:1]), False)
                self.assertIs(is_full(city, lot[:-1]), False)
                self.assertIs(is_lot(city, list(lot)), False)
                self.assertIs(is_lot(city, listed_below(lot, 1)), False)
                self.assertIs(is_full(city, listed_below(lot, 1)), False)
            for road in plain.all_roads(city):
                self.assertIs(is_lot(city, (road,)), plain.bends(city, road) > 0)
        self.assertIs(is_full(SQUARE, ()), False)
        self.assertIs(is_lot(SQUARE, (("W", False, "SS"),)), False)

    def test_long_things(self):
        for thing in (tuple(town(SQUARE).roads), tuple(town(SQUARE).roads) * 5000, (("W", 0, "SS"),) * 100000):
            self.assertIs(is_lot(SQUARE, thing), False)
            self.assertIs(is_full(SQUARE, thing), False)

    def test_parts_put_together(self):
        for word in ("E0E", "B0S", "B00E", "EE0B"):
            city, halves = line(word), [line(own) for own in word.split("0")]
            many = 1
            for own in halves:
                many *= how_many_full(own)
            self.assertEqual(how_many_full(city), many)
            for lot in full_lots(city):
                for part in parts(city):
                    inside = [road for road in lot if road[1] in part]
                    self.assertEqual(len(inside), len(part))

    def test_least_and_greatest(self):
        for city in LITTLE + made_cities(10, 20, 103):
            hooks = [[], []]
            for k in range(plain.size(city)):
                for road in plain.all_roads(city):
                    turns = plain.turns(city, road)
                    if [n for n, own in enumerate(turns) if own] == [k]:
                        hooks[0 if turns[k] == 1 else 1].append(road)
            self.assertEqual(least_lot(city), tuple(sorted(hooks[0])))
            self.assertEqual(greatest_lot(city), tuple(sorted(hooks[1])))


class PutTogether(Checks):
    def test_brushing_pair(self):
        for city in LITTLE:
            own = town(city)
            sets = [roads for many in range(4) for roads in combinations(own.roads[:8], many)]
            for roads in sets + [tuple(own.roads), tuple(own.roads[::2]), tuple(own.roads[1::3])]:
                pair = low_in_turn(city, roads)
                if pair is None:
                    self.raises(CanNot, {}, brushing_pair, city, roads)
                else:
                    self.assertEqual(brushing_pair(city, roads), pair)
                    self.assertEqual(brushing_pair(listed(city), listed(roads)), pair)

    def test_brushing_pair_of_many(self):
        roads = plain.bent_roads(ROADS_2000)
        pair = brushing_pair(ROADS_2000, roads)
        self.assertTrue(do_brush(ROADS_2000, *pair))
        self.assertEqual(pair, low_in_turn(ROADS_2000, roads[:400]))
        self.raises(CanNot, {}, brushing_pair, DOUBLED_60, least_lot(DOUBLED_60))
        self.raises(CanNot, {}, brushing_pair, DOUBLED_60, ())

    def test_barred_and_put(self):
        for city in LITTLE[:25]:
            own = town(city)
            for lot in own.lots[::3]:
                for road in plain.all_roads(city):
                    barred = tuple(other for other in lot if (road, other) in own.bad)
                    self.assertEqual(barred_by(city, lot, road), barred)
                    if road in lot:
                        self.assertEqual(put_to(city, lot, road), lot)
                        self.assertEqual(put_to(city, listed(lot), listed(road)), lot)
                    elif barred or not plain.bends(city, road):
                        self.raises(CanNot, {}, put_to, city, lot, road)
                    else:
                        self.assertEqual(put_to(city, lot, road), tuple(sorted(lot + (road,))))

    def test_goes_with(self):
        for city in LITTLE:
            own = town(city)
            for lot in own.lots:
                self.assertEqual(goes_with(city, lot), own.more_for(lot))

    def test_goes_with_many(self):
        self.assertEqual(how_many_roads(ROADS_2000), 2000)
        self.assertEqual(goes_with(ROADS_2000, ()), tuple(plain.bent_roads(ROADS_2000)))
        self.assertEqual(goes_with(ROADS_2000, least_lot(ROADS_2000)), ())
        lot = greatest_lot(ROADS_2000)[1:]
        both = finished(ROADS_2000, lot, "low") + finished(ROADS_2000, lot, "high")
        self.assertEqual(goes_with(ROADS_2000, lot), tuple(sorted(set(both) - set(lot))))
        self.assertEqual(how_many_roads(ROADS_2001), 2001)
        for city in (ROADS_2001, DOUBLED_60):
            self.raises(TooMany, {}, goes_with, city, ())
            self.raises(TooMany, {}, goes_with, city, least_lot(city))
            self.unfit(goes_with, city, (("W", 0, ""),))


class Finished(Checks):
    def test_finished_by_trying_all(self):
        for city in LITTLE:
            own = town(city)
            for word, sign in (("low", 1), ("high", -1)):
                for lot in own.lots[:120]:
                    known = [full for full in own.fulls if set(lot) <= set(full) and
                             all(form[1] == sign for road, form in zip(full, own.forms[full]) if road not in lot)]
                    self.assertEqual(known, [finished(city, lot, word)])
                self.assertEqual(finished(city, (), word), least_lot(city) if word == "low" else greatest_lot(city))

    def test_in_all_full_ones(self):
        for city in LITTLE:
            own = town(city)
            for lot in own.lots[:120]:
                shared = set(own.roads)
                for full in own.fulls:
                    if set(lot) <= set(full):
                        shared &= set(full)
                self.assertEqual(shared, set(lot))

    def test_by_tables(self):
        figures = Figures(104)
        for city in made_cities(20, 60, 105) + SIXTIES:
            size = plain.size(city)
            full = home(city, made_table(figures, size, 9))
            lot = tuple(road for road in full if figures.below(2))
            for word in ("low", "high"):
                found = finished(city, lot, word)
                self.assertTrue(is_full(city, found))
                self.assertLessEqual(set(lot), set(found))
            self.assertEqual(home(city, inner_table(city, full)), full)

    def test_all_are_led_into_one_another(self):
        for city in LITTLE:
            own = town(city)
            found = own.above(least_lot(city))
            self.assertEqual(found, set(own.fulls))


class HowMany(Checks):
    def test_just_so_many(self):
        self.assertEqual(how_many_full(LOTS_2000), 2000)
        found = full_lots(LOTS_2000)
        self.assertEqual(len(set(found)), 2000)
        self.assertEqual(found, tuple(sorted(found)))
        self.assertTrue(all(is_full(LOTS_2000, lot) for lot in found[::97]))
        sizes = lots_by_size(LOTS_2000)
        self.assertEqual((sizes[0], sizes[1], sizes[-1]), (1, how_many_roads(LOTS_2000), 2000))
        self.assertEqual(sum(many if k % 2 else -many for k, many in enumerate(sizes)), -1)

    def test_too_many(self):
        self.assertEqual(how_many_full(line("BE")) * how_many_full(line("EE")) * 8, 2016)
        for city in SIXTIES + [LOTS_2002, rectangle(3, 3), line("B" * 6), line("0" * 10), line("EEEEEEE")]:
            for function in (full_lots, how_many_full, lots_by_size):
                self.raises(TooMany, {}, function, city)
        self.assertEqual(how_many_full(line("0" * 9)), 1024)
        self.assertEqual(how_many_full(line("EEEEEE")), 1430)
        self.assertEqual(how_many_full(line("BBBB")), 720)

    def test_edges(self):
        self.assertEqual(full_lots(LONE), ((("N", 0, "E"),), (("W", 0, "S"),)))
        self.assertEqual(lots_by_size(LONE), (1, 2))
        self.assertEqual(how_many_full(APART), 4)
        self.assertEqual(lots_by_size(TWICE), (1, 6, 6))
        self.assertEqual(goes_with(LONE, (("W", 0, "S"),)), ())
        self.assertEqual(goes_with(LONE, ()), (("N", 0, "E"), ("W", 0, "S")))

    def test_sixty(self):
        for city in SIXTIES:
            least, most = least_lot(city), greatest_lot(city)
            for lot in (least, most):
                self.assertEqual(len(lot), 60)
                self.assertIs(is_full(city, lot), True)
                self.assertIs(is_lot(city, lot[3:40:2]), True)
                self.assertIs(is_full(city, lot[1:]), False)
            self.assertEqual(finished(city, least, "high"), least)
            self.assertEqual(finished(city, (), "high"), most)
            self.assertTrue(set(barred_by(city, least, most[0])) <= set(least))
            self.assertEqual(barred_by(city, least, most[0]),
                             tuple(road for road in least if do_brush(city, road, most[0])))
            self.assertEqual(put_to(city, least[5:], least[0]), tuple(sorted(least[5:] + least[:1])))
            self.raises(CanNot, {}, put_to, city, least, most[0])
            self.assertEqual(finished(city, [list(road) for road in least[:7]], "low"), least)


class Wrong(Checks):
    def test_order_of_the_checks(self):
        straight = ("W", 0, "EE")
        self.unfit(put_to, SQUARE, (), ("W", 0, "S"))
        self.unfit(put_to, SQUARE, (straight,), straight)
        self.raises(CanNot, {}, put_to, SQUARE, (), straight)
        self.unfit(brushing_pair, SQUARE, (straight,))
        self.unfit(finished, SQUARE, (), "lower")
        self.unfit(finished, SQUARE, (straight,), "low")
        self.unfit(finished, DOUBLED_60, least_lot(DOUBLED_60)[::-1], "low")
        for city in ((), None, (((0,),), ((1,),))):
            for function in (least_lot, greatest_lot, full_lots, how_many_full, lots_by_size):
                self.unfit(function, city)

    def test_all_pairs_of_roads_as_lots(self):
        own = town(SQUARE)
        for pair in product(plain.all_roads(SQUARE), repeat=2):
            is_good = pair[0] < pair[1] and pair not in own.bad and set(pair) <= set(own.roads)
            self.assertIs(is_lot(SQUARE, pair), is_good)
            if not is_good:
                self.unfit(finished, SQUARE, pair, "low")
            else:
                self.assertLessEqual(set(pair), set(finished(SQUARE, pair, "low")))


if __name__ == "__main__":
    unittest.main()

"""How many, promise 18."""

import unittest
from itertools import product
from math import comb, factorial

from neverbrush.counts import by_seams, drawn, lot_number, numbered_lot, rectangle_lots, rectangle_seams
from neverbrush.counts import roads_by_lots, seams_by_lots
from neverbrush.errors import CanNot, TooMany
from neverbrush.floors import line, rectangle
from neverbrush.lots import full_lots, greatest_lot, how_many_full, is_full, least_lot, lots_by_size
from neverbrush.roads import how_many_roads, roads
from neverbrush.seams import rises, seams
from neverbrush.stretches import stretches
from tests import plain
from tests.checks import Checks
from tests.made import APART, DOUBLED_60, LONE, LOTS_2000, LOTS_2002, NAMED, SQUARE, TWICE, listed
from tests.plain_lots import LITTLE, town

TOO_MANY = (LOTS_2002, DOUBLED_60, rectangle(3, 3), line("0" * 10), rectangle(6, 10))


def tableaux(high, wide):
    """All tableaux of so many rows and columns, each the list of the rows of its numbers 1, 2, .."""
    rows, found = [((0,) * high, ())], []
    while rows:
        filled, told = rows.pop()
        if len(told) == high * wide:
            found.append(told)
        for row in range(high):
            if filled[row] < wide and (row == 0 or filled[row - 1] > filled[row]):
                rows.append((filled[:row] + (filled[row] + 1,) + filled[row + 1:], told + (row,)))
    return found


def falls(told):
    """How many numbers have their next one in a lower row."""
    return sum(1 for row, there in zip(told, told[1:]) if there > row)


class Counts(Checks):
    def test_beside_all_full_lots(self):
        for city in LITTLE:
            own = town(city)
            many = [len(own.seams(lot)) for lot in own.fulls]
            self.assertEqual(by_seams(city), tuple(many.count(k) for k in range(own.size + 1)))
            self.assertEqual(by_seams(city), by_seams(city)[::-1])
            self.assertEqual(by_seams(city)[0], 1)
            self.assertEqual(roads_by_lots(city), tuple(
                (road, sum(1 for lot in own.fulls if road in lot)) for road in own.roads))
            self.assertEqual(seams_by_lots(city), tuple(
                (one, sum(1 for lot in own.fulls if one in own.seams(lot))) for one in own.stretches))
            for one, often in seams_by_lots(listed(city)):
                self.assertEqual(sum(1 for lot in own.fulls if one in own.rises(lot)), often)
                self.assertGreater(often, 0)

    def test_lots_by_size_told_by_seams(self):
        for city in LITTLE + [LOTS_2000, rectangle(2, 3), line("BE0S")]:
            size, many = plain.size(city), by_seams(city)
            self.assertEqual(lots_by_size(city), tuple(
                sum(many[k] * comb(size - k, size - number) for k in range(size + 1)) for number in range(size + 1)))

    def test_numbers(self):
        for city in LITTLE:
            own = town(city)
            for number, lot in enumerate(own.fulls):
                self.assertEqual(numbered_lot(city, number), lot)
                self.assertEqual(lot_number(city, lot), number)
                self.assertEqual(lot_number(listed(city), listed(lot)), number)
            for number in (-1, -len(own.fulls), len(own.fulls), 10 ** 6, 10 ** 30):
                self.raises(CanNot, {}, numbered_lot, city, number)

    def test_drawn_by_all_figures_of_two_places(self):
        for city in NAMED:
            own = full_lots(city)
            for length in range(3):
                often = {lot: 0 for lot in own}
                times = 10 ** length // len(own)
                for figures in product(range(10), repeat=length):
                    lot = drawn(city, figures)
                    number = int("0" + "".join(map(str, figures)))
                    known = own[number // times] if times and number // times < len(own) else None
                    self.assertEqual(lot, known)
                    if lot is not None:
                        often[lot] += 1
                self.assertEqual(set(often.values()), {times})

    def test_drawn_by_many_figures(self):
        for city in (SQUARE, LONE, TWICE):
            own = full_lots(city)
            for figures in ((9,) * 30, (0,) * 30, (3, 1, 4, 1, 5, 9, 2, 6, 5, 3), (5, 0, 0, 0), (4, 9, 9, 9)):
                times = 10 ** len(figures) // len(own)
                number = int("".join(map(str, figures))) // times
                self.assertEqual(drawn(city, figures), own[number] if number < len(own) else None)
                self.assertEqual(drawn(city, list(figures)), drawn(city, figures))
        self.assertEqual(drawn(LONE, (4,)), (("N", 0, "E"),))
        self.assertEqual(drawn(LONE, (5,)), (("W", 0, "S"),))
        self.assertIsNone(drawn(LONE, ()))
        self.assertIsNone(drawn(LOTS_2000, (9, 9, 9)))
        self.assertEqual(drawn(LOTS_2000, (0, 0, 0, 4)), full_lots(LOTS_2000)[0])
        self.assertEqual(drawn(LOTS_2000, (0, 0, 0, 5)), full_lots(LOTS_2000)[1])
        for figures in ((0,) * 31, (10,), (-1,), (True,), (None,), "12", 5, None, ((1,),), {}):
            self.unfit(drawn, SQUARE, figures)
            self.unfit(drawn, DOUBLED_60, figures)

    def test_just_so_many_and_too_many(self):
        self.assertEqual(how_many_full(LOTS_2000), 2000)
        many = by_seams(LOTS_2000)
        self.assertEqual((sum(many), many[0], many[-1]), (2000, 1, 1))
        self.assertEqual(len(roads_by_lots(LOTS_2000)), how_many_roads(LOTS_2000))
        self.assertEqual(sum(often for _, often in roads_by_lots(LOTS_2000)), 20000)
        self.assertEqual([road for road, _ in roads_by_lots(LOTS_2000)], roads(LOTS_2000))
        self.assertEqual([one for one, _ in seams_by_lots(LOTS_2000)], stretches(LOTS_2000))
        self.assertEqual(sum(often for _, often in seams_by_lots(LOTS_2000)), 10000)
        self.assertEqual(numbered_lot(LOTS_2000, 1999), full_lots(LOTS_2000)[1999])
        self.raises(CanNot, {}, numbered_lot, LOTS_2000, 2000)
        for city in TOO_MANY:
            for function in (by_seams, roads_by_lots, seams_by_lots):
                self.raises(TooMany, {}, function, city)
            for number in (0, -1, 10 ** 6):
                self.raises(TooMany, {}, numbered_lot, city, number)
            self.unfit(numbered_lot, city, True)
            self.raises(TooMany, {}, lot_number, city, least_lot(city))
            self.unfit(lot_number, city, least_lot(city)[1:])
            self.raises(TooMany, {}, drawn, city, ())
            self.raises(TooMany, {}, drawn, city, (1, 2))

    def test_edges(self):
        self.assertEqual(by_seams(LONE), (1, 1))
        self.assertEqual(roads_by_lots(LONE), ((("N", 0, "E"), 1), (("W", 0, "S"), 1)))
        self.assertEqual(seams_by_lots(LONE), (((0, ""), 1),))
        self.assertEqual(by_seams(APART), (1, 2, 1))
        self.assertEqual(lot_number(APART, greatest_lot(APART)), 0)
        self.unfit(numbered_lot, LONE, None)
        self.unfit(numbered_lot, LONE, "0")
        self.unfit(lot_number, LONE, ())

    def test_seams_and_rises_of_each(self):
        for city in (LOTS_2000, rectangle(2, 3)):
            for lot in full_lots(city)[::41]:
                self.assertIs(is_full(city, lot), True)
                self.assertEqual(len(seams(city, lot)) + len(rises(city, lot)), plain.size(city))


class Rectangles(Checks):
    def test_beside_their_cities(self):
        for high in range(1, 7):
            for wide in range(1, 7):
                if high * wide <= 6:
                    city = rectangle(high, wide)
                    self.assertEqual(rectangle_lots(high, wide), how_many_full(city))
                    if max(high, wide) <= 5:
                        self.assertEqual(rectangle_seams(high, wide), by_seams(city))

    def test_beside_tableaux(self):
        for high in range(1, 5):
            for wide in range(1, 5):
                if high * wide <= 8:
                    known = tableaux(high + 1, wide + 1)
                    self.assertEqual(rectangle_lots(high, wide), len(known))
                    many = [falls(told) for told in known]
                    self.assertEqual(rectangle_seams(high, wide), tuple(
                        many.count(high + k) for k in range(high * wide + 1)))

    def test_all_that_can_be_asked(self):
        for high in range(1, 31):
            for wide in range(1, high + 1):
                many = rectangle_lots(high, wide)
                known, hooks = factorial((high + 1) * (wide + 1)), 1
                for row in range(high + 1):
                    for column in range(wide + 1):
                        hooks *= row + column + 1
                self.assertEqual(many * hooks, known)
                self.assertEqual(rectangle_lots(wide, high), many)
        for high in range(1, 6):
            for wide in range(1, 6):
                row = rectangle_seams(high, wide)
                self.assertEqual(len(row), high * wide + 1)
                self.assertEqual(sum(row), rectangle_lots(high, wide))
                self.assertEqual(row, row[::-1])
                self.assertEqual(row, rectangle_seams(wide, high))
                self.assertEqual(row[0], 1)

    def test_edges_and_errors(self):
        self.assertEqual(rectangle_lots(1, 1), 2)
        self.assertEqual(rectangle_seams(1, 1), (1, 1))
        self.assertEqual(rectangle_lots(1, 30), rectangle_lots(30, 1))
        self.assertEqual(rectangle_lots(1, 30), comb(62, 31) // 32)
        for wrong in (0, -1, 31, True, None, "1", (1,), 10 ** 9):
            self.unfit(rectangle_lots, wrong, 1)
            self.unfit(rectangle_lots, 1, wrong)
            self.unfit(rectangle_lots, wrong, wrong)
            self.unfit(rectangle_seams, wrong, 1)
            self.unfit(rectangle_seams, 1, wrong)
        self.unfit(rectangle_seams, 6, 1)
        self.unfit(rectangle_seams, 1, 6)


if __name__ == "__main__":
    unittest.main()

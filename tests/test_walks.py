"""Walks, promise 14."""

import unittest
from fractions import Fraction
from itertools import product

from neverbrush.bags import bag, lot_of, table_of
from neverbrush.errors import CanNot, NoCrossing, TooMany
from neverbrush.exchange import exchange_to, exchanges
from neverbrush.floors import line, rectangle
from neverbrush.forms import home
from neverbrush.lots import full_lots, greatest_lot, least_lot
from neverbrush.walks import bag_then, by_far, exchanges_to, first_put, gone_and_come, how_far, is_row, lots_between
from neverbrush.walks import moments, put
from tests import plain
from tests.checks import Checks
from tests.made import ALLEY, DOUBLED_60, LONE, NAMED, SIXTIES, SMALL, SQUARE, TWICE, Figures, listed, listed_below
from tests.made import made_cities, made_table
from tests.plain_lots import LITTLE, town


def then(table, other, time):
    """The TABLE at a time from 0 to 1, so many times that it has whole numbers."""
    p, q = time.numerator, time.denominator
    return [(q - p) * one + p * more for one, more in zip(table, other)]


def plain_walk(city, table, other):
    """The moments and the LOTS between, by looking at each time at which some STRETCH has the sum 0."""
    times = {Fraction(0), Fraction(1)}
    for stretch in plain.all_stretches(city):
        along = plain.crossings(city, stretch)
        one, more = sum(table[own] for own in along), sum(other[own] for own in along)
        if one * more < 0:
            times.add(Fraction(one, one - more))
    times = sorted(times)
    there = [lot_of(city, then(table, other, time)) for time in times]
    between = [lot_of(city, then(table, other, (one + more) / 2)) for one, more in zip(times, times[1:])]
    found, lots = [], [there[0], between[0]]
    for k in range(1, len(times) - 1):
        if there[k] != between[k - 1]:
            found.append((times[k].numerator, times[k].denominator))
            lots.extend([there[k], between[k]])
        elif between[k] != between[k - 1]:
            raise AssertionError("the lot changes behind a moment")
    return found, lots + [there[-1]]


class Straight(Checks):
    def check(self, city, table, other):
        found, lots = plain_walk(city, table, other)
        self.assertEqual(moments(city, table, other), found)
        self.assertEqual(lots_between(city, table, other), lots)
        self.assertEqual(len(lots), 2 * len(found) + 3)
        left = lots[1::2]
        self.assertEqual(len(set(left)), len(left))
        for k in range(2, len(lots) - 1, 2):
            self.assertLess(set(lots[k]), set(lots[k - 1]))
            self.assertLess(set(lots[k]), set(lots[k + 1]))
        self.assertLessEqual(set(lots[0]), set(lots[1]))
        self.assertLessEqual(set(lots[-1]), set(lots[-2]))

    def test_small_tables(self):
        for city in SMALL + [TWICE]:
            tables = list(product((-1, 0, 2), repeat=plain.size(city)))
            for table in tables:
                for other in tables[::1 if len(tables) < 10 else 4]:
                    self.check(city, table, other)

    def test_made_tables(self):
        figures = Figures(141)
        for city in list(NAMED) + made_cities(25, 8, 142):
            for size in (1, 2, 5, 10 ** 6):
                table, other = (made_table(figures, plain.size(city), size) for _ in range(2))
                self.check(city, table, other)
                self.check(city, table, [-number for number in table])
            self.check(city, (1,) * plain.size(city), (-1,) * plain.size(city))

    def test_bag_then(self):
        figures = Figures(143)
        for city in LITTLE + SIXTIES:
            table, other = (made_table(figures, plain.size(city), 10 ** 6) for _ in range(2))
            self.assertEqual(bag_then(city, table, other, (0, 1)), bag(city, table))
            self.assertEqual(bag_then(city, table, other, (1, 1)), bag(city, other))
            for p, q in ((0, 7), (7, 7), (2, 4), (1, 3), (5, 9), (10 ** 6 - 1, 10 ** 6)):
                there = [(q - p) * one + p * more for one, more in zip(table, other)]
                self.assertEqual(bag_then(city, table, other, (p, q)), bag(city, there))
                self.assertEqual(bag_then(listed(city), listed(table), other, [p, q]), bag(city, there))
        self.assertEqual(bag_then(LONE, (3,), (3,), (2, 4)), ((("W", 0, "S"), 12),))
        for moment in ((1, 0), (3, 2), (-1, 2), (0, 0), (True, 2), (1, 2, 3), (1,), None, "12", ((1, 2),)):
            self.unfit(bag_then, SQUARE, (0,) * 4, (0,) * 4, moment)

    def test_big_walks(self):
        figures = Figures(144)
        for city in SIXTIES:
            for size in (2, 10 ** 6):
                table, other = (made_table(figures, 60, size) for _ in range(2))
                found, lots = moments(city, table, other), lots_between(city, table, other)
                self.assertEqual(len(lots), 2 * len(found) + 3)
                times = [Fraction(*moment) for moment in found]
                self.assertEqual([(time.numerator, time.denominator) for time in times], found)
                self.assertEqual(times, sorted(set(times)))
                self.assertTrue(all(0 < time < 1 for time in times))
                times = [Fraction(0)] + times + [Fraction(1)]
                for k in range(0, len(times) - 1, max(1, len(times) // 25)):
                    self.assertEqual(lot_of(city, then(table, other, times[k])), lots[2 * k])
                    middle = (times[k] + times[k + 1]) / 2
                    self.assertEqual(lot_of(city, then(table, other, middle)), lots[2 * k + 1])
                    nearer = times[k + 1] - Fraction(1, 10 ** 40)
                    self.assertEqual(lot_of(city, then(table, other, nearer)), lots[2 * k + 1])

    def test_nothing_changes(self):
        self.assertEqual(moments(SQUARE, (1, 2, 3, 4), (1, 2, 3, 4)), [])
        self.assertEqual(lots_between(LONE, (0,), (0,)), [(), (), ()])
        self.assertEqual(lots_between(LONE, (0,), (5,)), [(), (("W", 0, "S"),), (("W", 0, "S"),)])
        self.assertEqual(moments(LONE, (4,), (-2,)), [(2, 3)])
        self.assertEqual(moments(LONE, (0,), (-2,)), [])

    def test_too_many(self):
        for lengths, many in (([62, 9, 1, 1], 2000), ([62, 9, 1, 1, 1], 2001)):
            city, table, other = far_apart(lengths, many)
            if many <= 2000:
                self.assertEqual(len(moments(city, table, other)), many)
                self.assertEqual(len(lots_between(city, table, other)), 2 * many + 3)
            else:
                self.raises(TooMany, {}, moments, city, table, other)
                self.raises(TooMany, {}, lots_between, city, table, other)
                self.assertEqual(len(bag_then(city, table, other, (1, 2))), sum(lengths))
                self.unfit(moments, city, table, other[1:])


def far_apart(lengths, many):
    """Single streets of these lengths, beside one another, and two TABLES between which each STRETCH is 0 once."""
    city = line("0".join("E" * (length - 1) for length in lengths))
    for seed in range(200):
        figures = Figures(145 + seed)
        zeros = [number for length in lengths for number in sorted(figures.below(999999) + 1 for _ in range(length))]
        times, at = set(), 0
        for length in lengths:
            for k in range(at, at + length):
                times.update(Fraction(sum(zeros[k:n]), n - k) for n in range(k + 1, at + length + 1))
            at += length
        if len(times) == many:
            return city, tuple(zeros), tuple(number - 10 ** 6 for number in zeros)
    raise AssertionError("no tables found")


class Putting(Checks):
    def test_put_is_the_bag_itself(self):
        figures = Figures(146)
        for city in LITTLE + made_cities(10, 60, 147) + SIXTIES:
            size = plain.size(city)
            for most in (1, 3, 10 ** 6):
                table = made_table(figures, size, most)
                own, crossing = bag(city, table), figures.below(size)
                number = figures.between(-most, most)
                there = bag(city, table[:crossing] + (table[crossing] + number,) + table[crossing + 1:])
                self.assertEqual(put(city, own, crossing, number), there)
                self.assertEqual(put(listed(city), listed(own), crossing, number), there)
                ahead, behind = [road for road, _ in own], [road for road, _ in there]
                self.assertEqual(gone_and_come(city, own, crossing, number),
                                 (tuple(road for road in ahead if road not in behind),
                                  tuple(road for road in behind if road not in ahead)))
                self.assertEqual(put(city, own, crossing, 0), own)
                self.assertEqual(gone_and_come(city, own, crossing, 0), ((), ()))

    def test_first_put_by_trying(self):
        figures = Figures(148)
        for city in LITTLE:
            for most in (0, 1, 3, 7):
                own = bag(city, made_table(figures, plain.size(city), most))
                for crossing in range(plain.size(city)):
                    for number in (-3, -1, 1, 2):
                        k = first_put(city, own, crossing, number)
                        tried = range(1, k + 1 if k else 60)
                        changed = [self.changed(city, own, crossing, one * number) for one in tried]
                        self.assertEqual(changed, [False] * (len(changed) - 1) + [k is not None])
                        if k is None:
                            self.assertFalse(self.changed(city, own, crossing, number * 10 ** 9))

    def changed(self, city, own, crossing, number):
        table = list(table_of(city, own))
        table[crossing] += number
        return lot_of(city, table) != tuple(road for road, _ in own)

    def test_first_put_far_away(self):
        figures = Figures(149)
        for city in SIXTIES:
            own = tuple((road, figures.between(1, 10 ** 6)) for road in home(city, made_table(figures, 60, 30)))
            for crossing in range(0, 60, 7):
                for number in (-1, 1, -7, 10 ** 6):
                    k = first_put(city, own, crossing, number)
                    if k is None:
                        self.assertFalse(self.changed(city, own, crossing, number * 10 ** 30))
                    else:
                        self.assertTrue(self.changed(city, own, crossing, k * number))
                        self.assertFalse(k > 1 and self.changed(city, own, crossing, (k - 1) * number))
        self.assertEqual(first_put(LONE, ((("W", 0, "S"), 10 ** 6),), 0, -1), 10 ** 6)
        self.assertEqual(first_put(LONE, ((("W", 0, "S"), 10 ** 6),), 0, -7), 142858)
        self.assertIsNone(first_put(LONE, ((("W", 0, "S"), 1),), 0, 5))
        self.assertEqual(first_put(LONE, (), 0, 5), 1)

    def test_errors(self):
        held = ((("W", 0, "S"), 4),)
        for function in (put, gone_and_come, first_put):
            for crossing in (-1, 3, 10 ** 6):
                for number in (0, 1):
                    self.raises(NoCrossing, {"crossing": crossing}, function, ALLEY, held, crossing, number)
                    self.unfit(function, ALLEY, held[0], crossing, number)
                    self.unfit(function, ALLEY, (held[0], held[0]), crossing, number)
                self.unfit(function, ALLEY, held, crossing, True)
                self.unfit(function, ALLEY, held, crossing, None)
            self.unfit(function, ALLEY, held, "0", 1)
            self.unfit(function, ALLEY, held, True, 1)
        self.unfit(first_put, ALLEY, held, 0, 0)
        self.assertEqual(put(ALLEY, held, 0, 0), held)


class Rows(Checks):
    def test_distances_by_own_steps(self):
        for city in LITTLE:
            own = town(city)
            for lot in own.fulls[::1 if len(own.fulls) < 11 else len(own.fulls) // 5]:
                far, row = {lot: 0}, [lot]
                for at in row:
                    for other in own.near[at].values():
                        if other not in far:
                            far[other] = far[at] + 1
                            row.append(other)
                counts = [0] * (max(far.values()) + 1)
                for number in far.values():
                    counts[number] += 1
                self.assertEqual(by_far(city, lot), tuple(counts))
                for other in own.fulls[::1 if len(own.fulls) < 11 else len(own.fulls) // 8]:
                    self.assertEqual(how_far(city, lot, other), far[other])
                    self.check_row(city, lot, other, far[other])

    def check_row(self, city, lot, other, many):
        row = exchanges_to(city, lot, other)
        self.assertIsInstance(row, tuple)
        self.assertEqual(len(row), many)
        self.assertEqual(self.led(city, lot, row), other)
        self.assertIs(is_row(city, lot, other, row), True)
        self.assertIs(is_row(city, lot, other, list(row)), False)
        for own in (row, row[::-1], row[1:], row[:1] * 3 + row[1:]):
            self.assertIs(is_row(city, other, lot, own), self.led(city, other, own) == lot)
            self.assertIs(is_row(city, lot, other, own), self.led(city, lot, own) == other)
        if row:
            self.assertIs(is_row(city, lot, other, row[:-1]), False)
            self.assertIs(is_row(city, lot, other, row + row[-1:]), False)
            self.assertIs(is_row(city, lot, other, row + row[-1:] * 2), True)
            for depth in (1, 2):
                self.assertIs(is_row(city, lot, other, listed_below(row, depth)), False)
            turned = ((row[0][1], row[0][0], row[0][2]),) + row[1:]
            self.assertIs(is_row(city, lot, other, turned), False)
            odd = (row[0][:2] + ((row[0][2][0] == 1, row[0][2][1]),),) + row[1:]
            self.assertIs(is_row(city, lot, other, odd), False)
            self.assertIs(is_row(city, lot, other, row + (None,)), False)

    def led(self, city, lot, row):
        """Where the EXCHANGES of row lead from lot, by own steps; None if one is none of the LOT that has come."""
        at = lot
        for step in row:
            at = town(city).near[at].get(step)
            if at is None:
                return None
        return at

    def test_long_rows(self):
        lot, there = least_lot(SQUARE), full_lots(SQUARE)[0]
        ahead, back = exchanges_to(SQUARE, lot, there), exchanges_to(SQUARE, there, lot)
        self.assertIs(is_row(SQUARE, lot, there, (ahead + back) * 500 + ahead), True)
        self.assertIs(is_row(SQUARE, lot, lot, (ahead + back) * 500), True)
        self.assertIs(is_row(SQUARE, lot, there, (ahead + back) * 500), False)
        self.assertIs(is_row(SQUARE, lot, lot, ((0,) * 3,) * 100000), False)
        for city in SIXTIES:
            at, row = least_lot(city), []
            for k in range(30):
                row.append(exchanges(city, at)[(7 * k) % 60])
                at = tuple(sorted(set(at) ^ set(row[-1][:2])))
            self.assertIs(is_row(city, least_lot(city), at, tuple(row)), True)
            self.assertIs(is_row(city, least_lot(city), at, tuple(row[1:])), False)
            self.assertIs(is_row(city, at, least_lot(city), tuple(row[::-1])), True)
            self.assertIs(is_row(city, at, at, ()), True)
            self.assertIs(is_row(city, at, least_lot(city), ()), False)

    def test_five_and_six_crossings(self):
        for city in (line("BBBB"), line("ESBE"), line("0000"), rectangle(1, 5)):
            least, most = least_lot(city), greatest_lot(city)
            counts = by_far(city, least)
            self.assertEqual((counts[0], counts[1], sum(counts)), (1, 5, len(full_lots(city))))
            row = exchanges_to(city, least, most)
            self.assertEqual(how_far(city, least, most), len(row))
            self.assertIs(is_row(city, least, most, row), True)
        for city in (line("00000"), line("EEEEE"), rectangle(2, 3), DOUBLED_60):
            least, most = least_lot(city), greatest_lot(city)
            self.raises(TooMany, {}, how_far, city, least, most)
            self.raises(TooMany, {}, how_far, city, least, least)
            self.raises(TooMany, {}, exchanges_to, city, least, least)
            self.raises(TooMany, {}, by_far, city, least)
            self.unfit(how_far, city, least, most[1:])
            self.unfit(exchanges_to, city, least[1:], most)
            self.unfit(by_far, city, ())
            self.assertIs(is_row(city, least, least, ()), True)
            self.assertIs(is_row(city, least, most, [()]), False)

    def test_edges(self):
        low, high = (("W", 0, "S"),), (("N", 0, "E"),)
        self.assertEqual(by_far(LONE, low), (1, 1))
        self.assertEqual(how_far(LONE, low, high), 1)
        self.assertEqual(exchanges_to(LONE, low, high), ((low[0], high[0], (0, "")),))
        self.assertEqual(exchanges_to(LONE, low, low), ())
        self.assertIs(is_row(LONE, low, low, ()), True)
        self.assertIs(is_row(LONE, low, high, ()), False)
        self.assertIs(is_row(LONE, low, low, []), False)
        self.unfit(is_row, LONE, low, (), ())
        self.unfit(is_row, LONE, (), low, ())
        self.raises(CanNot, {}, exchange_to, LONE, low, low)


if __name__ == "__main__":
    unittest.main()

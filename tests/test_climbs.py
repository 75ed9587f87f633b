"""Climbs, promise 17."""

import unittest
from itertools import combinations

from neverbrush.climbs import climb, climb_lengths, climbed, is_below, is_climb, is_over_ring, is_why_not_below, join
from neverbrush.climbs import led_down, led_up, longest_climb, meet, over_ring, why_not_below
from neverbrush.closed import closure, is_under, under
from neverbrush.errors import Broken, CanNot, NoStretch, TooMany
from neverbrush.exchange import exchange_of
from neverbrush.floors import line, rectangle
from neverbrush.forms import home
from neverbrush.lots import full_lots, greatest_lot, is_full, least_lot
from neverbrush.seams import rises, seams
from neverbrush.stretches import how_many_stretches, lies_over, stretches
from tests import plain
from tests.checks import Checks
from tests.made import ALLEY, DOUBLED_60, LONE, LOTS_2000, LOTS_2002, SIXTIES, SQUARE, STRETCHES_2000, STRETCHES_2001
from tests.made import TWICE, TWIN, Figures, listed, listed_below, made_cities, made_table
from tests.plain_lots import LITTLE, town


def few(row, many):
    """About so many of row, evenly taken."""
    return row[::max(1, len(row) // many)]


def has_ring(city):
    """Whether the STRETCHES have an over ring: some of them lie over one without end."""
    everyone = plain.all_stretches(city)
    over = {own: set(plain.over_pieces(city, own)) for own in everyone}
    under_these = {own: set(plain.under_pieces(city, own)) for own in everyone}
    left, kept = None, set(everyone)
    while left != kept:
        left = kept
        kept = {own for own in left if any(own != other and over[own] & under_these[other] for other in left)}
    return bool(left)


class UpAndDown(Checks):
    def test_led_by_the_exchanges(self):
        for city in LITTLE:
            own = town(city)
            for lot in own.fulls:
                for stretch, there in own.ups[lot].items():
                    self.assertEqual(led_up(city, lot, stretch), there)
                    self.assertEqual(led_down(city, there, stretch), lot)
                    self.assertEqual(led_up(listed(city), listed(lot), list(stretch)), there)
                    known = set(own.unders[lot]) | {stretch}
                    self.assertEqual(under(city, there), own.closure(known))
                self.assertEqual(tuple(sorted(own.ups[lot])), rises(city, lot))
                for stretch in own.stretches:
                    if stretch not in own.ups[lot]:
                        self.raises(NoStretch, {"stretch": stretch}, led_up, city, lot, stretch)
                    if stretch not in own.seams(lot):
                        self.raises(NoStretch, {"stretch": stretch}, led_down, city, lot, list(stretch))

    def test_climbed(self):
        figures = Figures(171)
        for city in LITTLE:
            own = town(city)
            for lot in few(own.fulls, 12):
                at, steps = lot, []
                while own.ups[at]:
                    self.assertEqual(climbed(city, lot, steps), at)
                    self.assertIs(is_climb(city, lot, at, tuple(steps)), True)
                    self.assertIs(is_climb(city, lot, at, steps), False)
                    broken = [stretch for stretch in own.stretches if stretch not in own.ups[at]]
                    if broken:
                        row = steps + [figures.one_of(broken)] + steps
                        self.raises(Broken, {"number": len(steps)}, climbed, city, lot, row)
                        self.assertIs(is_climb(city, lot, at, tuple(row)), False)
                    steps.append(figures.one_of(sorted(own.ups[at])))
                    at = own.ups[at][steps[-1]]
                self.assertEqual(at, greatest_lot(city))
                self.assertEqual(len(set(steps)), len(steps))
                self.assertEqual(climbed(city, lot, ()), lot)

    def test_sixty(self):
        figures = Figures(172)
        for city in SIXTIES:
            lot = home(city, made_table(figures, plain.size(city), 20))
            for stretch in few(rises(city, lot), 5):
                there = led_up(city, lot, stretch)
                self.assertIs(is_full(city, there), True)
                self.assertIn(stretch, seams(city, there))
                self.assertEqual(led_down(city, there, stretch), lot)
                gone = [road for road in lot if road not in there]
                self.assertEqual(exchange_of(city, lot, gone[0])[2], stretch)
                self.assertIs(is_below(city, lot, there), True)
                self.assertIs(is_below(city, there, lot), False)
                self.assertEqual(why_not_below(city, there, lot), stretch)
                self.raises(NoStretch, {"stretch": stretch}, led_down, city, lot, stretch)
            at, steps = least_lot(city), []
            for k in range(40):
                ways = rises(city, at)
                steps.append(ways[(k * 7) % len(ways)])
                at = led_up(city, at, steps[-1])
            self.assertEqual(climbed(city, least_lot(city), steps), at)
            self.assertIs(is_climb(city, least_lot(city), at, tuple(steps)), True)
            self.assertIs(is_climb(city, least_lot(city), at, tuple(steps[1:])), False)
            self.assertIs(is_below(city, least_lot(city), at), True)
            self.assertIs(is_below(city, at, greatest_lot(city)), True)
            self.assertIs(is_below(city, least_lot(city), greatest_lot(city)), True)


class Below(Checks):
    def test_exactly_if_closed_sets_lie_in_one_another(self):
        for city in LITTLE:
            own = town(city)
            for lot in few(own.fulls, 12):
                higher = own.above(lot)
                for other in few(own.fulls, 20):
                    is_so = lot != other and other in higher
                    self.assertIs(is_below(city, lot, other), is_so)
                    self.assertIs(lot != other and set(own.unders[lot]) <= set(own.unders[other]), is_so)
                    self.assertIs(lot != other and set(own.seams(lot)) <= set(own.unders[other]), is_so)
                    self.check_why_not(own, lot, other)

    def check_why_not(self, own, lot, other):
        known = [one for one in own.seams(lot) if one not in own.unders[other]]
        if known:
            self.assertIn(why_not_below(own.city, lot, other), known)
        else:
            self.raises(CanNot, {}, why_not_below, own.city, lot, other)
        for stretch in known[:1] + few(own.stretches, 2):
            self.assertIs(is_why_not_below(own.city, lot, other, stretch), stretch in known)
        self.assertIs(is_why_not_below(own.city, lot, other, list(stretch)), False)

    def test_least_and_greatest(self):
        for city in LITTLE:
            for lot in full_lots(city):
                self.assertIs(is_below(city, least_lot(city), lot), lot != least_lot(city))
                self.assertIs(is_below(city, lot, greatest_lot(city)), lot != greatest_lot(city))
                self.assertIs(is_below(city, lot, lot), False)
                self.raises(CanNot, {}, why_not_below, city, lot, lot)

    def test_meet_and_join(self):
        for city in LITTLE:
            own = town(city)
            higher = {lot: own.above(lot) for lot in own.fulls}
            for lot in few(own.fulls, 12):
                for other in few(own.fulls, 14):
                    above = higher[lot] & higher[other]
                    least = [one for one in above if above <= higher[one]]
                    self.assertEqual([join(city, lot, other)], least)
                    below = {one for one in own.fulls if lot in higher[one] and other in higher[one]}
                    greatest = [one for one in below if all(one in higher[more] for more in below)]
                    self.assertEqual([meet(city, lot, other)], greatest)
                    both = set(own.unders[lot]) & set(own.unders[other])
                    self.assertEqual(set(under(city, greatest[0])), both)
                    self.assertEqual(under(city, least[0]), closure(city, sorted(
                        set(own.unders[lot]) | set(own.unders[other]))))
                self.assertEqual(meet(listed(city), listed(lot), lot), lot)
                self.assertEqual(join(listed(city), listed(lot), lot), lot)

    def test_big_meet_and_join(self):
        figures = Figures(173)
        for city in [line("E" * 59), line("S" * 59), STRETCHES_2000]:
            lot, other = (home(city, made_table(figures, plain.size(city), 30)) for _ in range(2))
            low, high = meet(city, lot, other), join(city, lot, other)
            self.assertEqual(set(under(city, low)), set(under(city, lot)) & set(under(city, other)))
            self.assertEqual(under(city, high), closure(city, sorted(set(seams(city, lot) + seams(city, other)))))
            for own in (lot, other):
                self.assertTrue(low == own or is_below(city, low, own))
                self.assertTrue(high == own or is_below(city, own, high))


class Climbs(Checks):
    def test_climbs_from_lot_to_lot(self):
        for city in LITTLE:
            own = town(city)
            for lot in few(own.fulls, 10):
                higher = own.above(lot)
                for other in few(own.fulls, 14):
                    if other not in higher:
                        self.raises(CanNot, {}, climb, city, lot, other)
                        self.raises(CanNot, {}, climb_lengths, city, lot, other)
                        self.assertIs(is_climb(city, lot, other, ()), False)
                        continue
                    row = climb(city, lot, other)
                    self.assertIsInstance(row, tuple)
                    at = lot
                    for stretch in row:
                        at = own.ups[at][stretch]
                    self.assertEqual(at, other)
                    self.assertEqual(row == (), lot == other)
                    self.assertIs(is_climb(city, lot, other, row), True)
                    self.assertEqual(climbed(city, lot, row), other)
                    self.assertEqual(climb_lengths(city, lot, other), self.lengths(own, lot, other))
                    self.check_odd_climbs(city, lot, other, row)

    def check_odd_climbs(self, city, lot, other, row):
        self.assertIs(is_climb(city, lot, other, list(row)), False)
        if row:
            for thing in (row[:-1], row + row[-1:], listed_below(row, 1), row[1:], row + (None,), (row,), row[0],
                          ((row[0][0] == 1, row[0][1]),) + row[1:]):
                self.assertIs(is_climb(city, lot, other, thing), False)

    def lengths(self, own, lot, other):
        """The fewest and the most steps, by all ways up, level by level."""
        found, row, steps = [], {lot}, 0
        while row:
            if other in row:
                found.append(steps)
            row, steps = {there for at in row for there in own.ups[at].values()}, steps + 1
        return (found[0], found[-1])

    def test_longest_climb(self):
        for city in LITTLE:
            own = town(city)
            row = longest_climb(city)
            least, most = least_lot(city), greatest_lot(city)
            self.assertIs(is_climb(city, least, most, row), True)
            self.assertEqual(len(row), self.lengths(own, least, most)[1])
            self.assertEqual(climb_lengths(city, least, most), self.lengths(own, least, most))
            if not has_ring(city):
                self.assertEqual(len(row), len(own.stretches))

    def test_over_rings(self):
        with_ring = 0
        for city in LITTLE + [rectangle(2, 3), rectangle(3, 3), line("BE0BB"), TWIN]:
            if not has_ring(city):
                self.raises(CanNot, {}, over_ring, city)
                for pair in combinations(stretches(city)[:12], 2):
                    self.assertIs(is_over_ring(city, pair), False)
                continue
            with_ring += 1
            ring = over_ring(city)
            self.assertIsInstance(ring, tuple)
            self.assertGreaterEqual(len(ring), 2)
            self.assertEqual(len(set(ring)), len(ring))
            self.assertTrue(all(lies_over(city, ring[k - 1], ring[k]) for k in range(len(ring))))
            self.assertIs(is_over_ring(city, ring), True)
            self.assertIs(is_over_ring(city, ring[1:] + ring[:1]), True)
            self.assertEqual(over_ring(listed(city)), ring)
            for thing in (list(ring), listed_below(ring, 1), ring + ring, ring[:1], (), None, ring + (None,),
                          ((ring[0][0] == 1, ring[0][1]),) + ring[1:], ring[:1] * 2):
                self.assertIs(is_over_ring(city, thing), False)
        self.assertGreater(with_ring, 5)

    def test_is_over_ring_by_trying(self):
        for city in (TWICE, TWIN, SQUARE):
            own = town(city)
            for many in (2, 3):
                for row in combinations(own.stretches, many):
                    for ring in (row, row[::-1]):
                        is_one = all((ring[k - 1], ring[k]) in own.overs for k in range(many))
                        self.assertIs(is_over_ring(city, ring), is_one)

    def test_just_so_many_stretches(self):
        self.assertEqual(how_many_stretches(STRETCHES_2000), 2000)
        self.assertIs(is_over_ring(STRETCHES_2000, over_ring(STRETCHES_2000)), True)
        least, most = least_lot(STRETCHES_2000), greatest_lot(STRETCHES_2000)
        row = climb(STRETCHES_2000, least, most)
        self.assertIs(is_climb(STRETCHES_2000, least, most, row), True)
        self.raises(CanNot, {}, climb, STRETCHES_2000, most, least)
        self.assertEqual(meet(STRETCHES_2000, least, most), least)
        self.assertEqual(join(STRETCHES_2000, least, most), most)
        for city in (STRETCHES_2001, DOUBLED_60, rectangle(6, 10)):
            least, most = least_lot(city), greatest_lot(city)
            for function in (climb, meet, join):
                self.raises(TooMany, {}, function, city, least, most)
                self.raises(TooMany, {}, function, city, most, least)
                self.unfit(function, city, most, least[1:])
            self.raises(TooMany, {}, over_ring, city)
            self.assertIs(is_climb(city, least, least, ()), True)
            self.assertIs(is_over_ring(city, ((0, ""), (0, "S"))), False)

    def test_single_streets_of_sixty(self):
        for city in (line("E" * 59), line("S" * 59)):
            least, most = least_lot(city), greatest_lot(city)
            row = climb(city, least, most)
            self.assertIs(is_climb(city, least, most, row), True)
            self.raises(CanNot, {}, over_ring, city)
            self.raises(CanNot, {}, climb, city, most, least)
            self.assertEqual(climb(city, most, most), ())
        everyone = stretches(line("E" * 59))
        self.assertEqual(len(everyone), 1830)

    def test_few_full_lots(self):
        city = LOTS_2000
        least, most = least_lot(city), greatest_lot(city)
        self.assertEqual(climb_lengths(city, least, most), (10, 13))
        self.assertEqual(len(longest_climb(city)), 13)
        self.assertEqual(climb_lengths(city, least, least), (0, 0))
        for city in (LOTS_2002, DOUBLED_60, rectangle(3, 3)):
            least, most = least_lot(city), greatest_lot(city)
            self.raises(TooMany, {}, longest_climb, city)
            self.raises(TooMany, {}, climb_lengths, city, most, least)
            self.unfit(climb_lengths, city, most, least[1:])


class Wrong(Checks):
    def test_order_of_the_checks(self):
        lot, far = least_lot(ALLEY), ((1, ""), (2, ""))
        self.raises(Broken, {"number": 1}, climbed, ALLEY, lot, far)
        for row in (far + ((0, "S"),), (far,), far + (None,), None, "", 3, (1, "")):
            self.unfit(climbed, ALLEY, lot, row)
        self.unfit(climbed, ALLEY, lot[1:], far)
        for function in (led_up, led_down):
            self.unfit(function, ALLEY, lot, (0, "S"))
            self.unfit(function, ALLEY, lot[1:], (0, "E"))
            self.raises(NoStretch, {"stretch": (0, "E")}, function, ALLEY, lot, [0, "E"])
        for function in (is_below, why_not_below, climb, meet, join, climb_lengths):
            self.unfit(function, ALLEY, lot, lot[1:])
            self.unfit(function, ALLEY, lot[::-1], lot)
            self.unfit(function, (), lot, lot)
        self.unfit(is_climb, ALLEY, lot, (), ())
        self.unfit(is_why_not_below, ALLEY, (), lot, None)
        self.unfit(is_over_ring, None, ())

    def test_edges(self):
        low, high = (("W", 0, "S"),), (("N", 0, "E"),)
        self.assertEqual(led_up(LONE, low, (0, "")), high)
        self.assertEqual(led_down(LONE, high, (0, "")), low)
        self.raises(NoStretch, {"stretch": (0, "")}, led_up, LONE, high, (0, ""))
        self.assertEqual((meet(LONE, low, high), join(LONE, low, high)), (low, high))
        self.assertEqual(longest_climb(LONE), ((0, ""),))
        self.assertEqual(climb_lengths(LONE, low, high), (1, 1))
        self.raises(CanNot, {}, climb_lengths, LONE, high, low)
        self.raises(CanNot, {}, over_ring, LONE)
        self.assertIs(is_over_ring(LONE, ((0, ""),)), False)
        self.assertIs(is_under(LONE, high, (0, "")), True)
        for city in made_cities(5, 4, 174):
            self.assertEqual(climb(city, least_lot(city), least_lot(city)), ())


if __name__ == "__main__":
    unittest.main()

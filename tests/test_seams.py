"""Seams, promise 16."""

import unittest
from itertools import islice

from neverbrush.closed import closure, is_in_closure, is_under, under
from neverbrush.errors import CanNot, TooMany
from neverbrush.floors import line, rectangle
from neverbrush.forms import home
from neverbrush.lots import full_lots, greatest_lot, is_full, least_lot
from neverbrush.seams import fitting_sets, is_fitting, lot_of_rises, lot_of_seams, may_join, ring_of, rises, seams
from neverbrush.seams import sent_back, sent_on, times_sent, unfit_pair, why_over
from neverbrush.stretches import lies_over, over_pieces, stretches, under_pieces
from tests import plain
from tests.checks import Checks
from tests.made import ALLEY, APART, DOUBLED_60, LONE, LOTS_2000, LOTS_2002, SIXTIES, SQUARE, STRETCHES_2000
from tests.made import STRETCHES_2001, Figures, listed, listed_below, made_cities, made_table
from tests.plain_lots import LITTLE, TRIED, subsets, town

LONG = (0, "ES" * 29 + "E")


def big_lots(seed):
    figures = Figures(seed)
    return [(city, home(city, made_table(figures, plain.size(city), size)))
            for city in SIXTIES + made_cities(8, 60, seed + 1) for size in (2, 999)]


class SeamsAndRises(Checks):
    def test_by_the_forms(self):
        for city in LITTLE:
            own = town(city)
            for lot in own.fulls:
                self.assertEqual(seams(city, lot), own.seams(lot))
                self.assertEqual(rises(city, lot), own.rises(lot))
                self.assertEqual(rises(listed(city), listed(lot)), own.rises(lot))
                self.assertFalse(set(own.seams(lot)) & set(own.rises(lot)))
                self.assertEqual(len(own.seams(lot)) + len(own.rises(lot)), own.size)
                self.assertEqual(closure(city, seams(city, lot)), own.unders[lot])

    def test_all_sets_that_fit_by_trying(self):
        for city in TRIED:
            own = town(city)
            known = [some for some in subsets(own.stretches) if own.fits(some)]
            for some in subsets(own.stretches):
                self.assertIs(is_fitting(city, some), own.fits(some))
            self.assertEqual(fitting_sets(city), sorted(known))
            self.assertEqual(sorted(map(own.seams, own.fulls)), sorted(known))
            self.assertEqual(sorted(map(own.rises, own.fulls)), sorted(known))
            self.assertLessEqual(max(map(len, known)), own.size)

    def test_lots_of_seams_and_rises(self):
        for city in LITTLE:
            own = town(city)
            for lot in own.fulls:
                self.assertEqual(lot_of_seams(city, own.seams(lot)), lot)
                self.assertEqual(lot_of_rises(city, own.rises(lot)), lot)
                self.assertEqual(lot_of_seams(listed(city), listed(own.seams(lot))), lot)
                self.assertEqual(lot_of_rises(listed(city), listed(own.rises(lot))), lot)
            self.assertEqual(fitting_sets(city), sorted(map(own.seams, own.fulls)))
            self.assertEqual(lot_of_seams(city, ()), least_lot(city))
            self.assertEqual(lot_of_rises(city, ()), greatest_lot(city))
            ones = tuple((k, "") for k in range(own.size))
            self.assertEqual(rises(city, least_lot(city)), ones)
            self.assertEqual(seams(city, greatest_lot(city)), ones)

    def test_the_roads_told_by_seams(self):
        for city in LITTLE[:30]:
            own = town(city)
            for lot in own.fulls:
                pieces = {part for one in own.seams(lot) for part in own.over[one]}
                others = [one for one in own.stretches if not set(own.under[one]) & pieces]
                good = [road for road in own.roads
                        if not any(own.words[road].get(one) == "low" for one in pieces)
                        and not any(own.words[road].get(one) == "high" for one in others)]
                self.assertEqual(tuple(good), lot)

    def test_as_many_with_so_many_seams(self):
        for city in LITTLE:
            own = town(city)
            many = [len(own.seams(lot)) for lot in own.fulls]
            for k in range(own.size + 1):
                self.assertEqual(many.count(k), many.count(own.size - k))

    def test_sixty(self):
        for city, lot in big_lots(161):
            low, high = seams(city, lot), rises(city, lot)
            self.assertEqual(len(low) + len(high), plain.size(city))
            self.assertIs(is_fitting(city, low), True)
            self.assertIs(is_fitting(city, high), True)
            self.assertEqual(lot_of_seams(city, low), lot)
            self.assertEqual(lot_of_rises(city, high), lot)
            there = sent_on(city, lot)
            self.assertIs(is_full(city, there), True)
            self.assertEqual(seams(city, there), high)
            self.assertEqual(sent_back(city, there), lot)
            self.assertEqual(rises(city, sent_back(city, lot)), low)
            self.assertEqual(times_sent(city, lot, lot), 0)
            for stretch in (low + high)[::7]:
                self.assertIs(is_in_closure(city, low, stretch), is_under(city, lot, stretch))


class Fitting(Checks):
    def test_unfit_pair(self):
        figures = Figures(163)
        for city in LITTLE:
            own = town(city)
            sets = list(islice(subsets(own.stretches), 120)) + [tuple(own.stretches)]
            sets += [tuple(one for one in own.stretches if not figures.below(3)) for _ in range(20)]
            for some in sets:
                known = [(one, other) for one in some for other in some if one != other and own.lies_over(one, other)]
                if known:
                    self.assertEqual(unfit_pair(city, some), min(known))
                    self.assertEqual(unfit_pair(listed(city), listed(some)), min(known))
                    self.raises(CanNot, {}, may_join, city, some)
                    self.raises(CanNot, {}, lot_of_seams, city, some)
                    self.raises(CanNot, {}, lot_of_rises, city, some)
                else:
                    self.raises(CanNot, {}, unfit_pair, city, some)

    def test_why_over(self):
        for city in LITTLE:
            own = town(city)
            for stretch in own.stretches:
                for other in own.stretches:
                    known = tuple(sorted(set(own.over[stretch]) & set(own.under[other])))
                    self.assertEqual(why_over(city, stretch, other), known)
                    self.assertIs(lies_over(city, stretch, other), bool(known))
                self.assertEqual(why_over(listed(city), list(stretch), list(stretch)), (stretch,))

    def test_why_over_sixty(self):
        figures = Figures(164)
        for city in SIXTIES:
            own = [some_stretch(figures, city) for _ in range(30)] + ([LONG, (0, LONG[1][::-1])] if
                                                                      city == DOUBLED_60 else [])
            for stretch in own[-15:]:
                for other in own:
                    known = set(over_pieces(city, stretch)) & set(under_pieces(city, other))
                    self.assertEqual(why_over(city, stretch, other), tuple(sorted(known)))

    def test_may_join(self):
        for city in LITTLE:
            own = town(city)
            for lot in own.fulls:
                for some in (own.seams(lot), own.seams(lot)[1:], own.rises(lot)[::2]):
                    known = tuple(one for one in own.stretches if one not in some
                                  and own.fits(tuple(sorted(some + (one,)))))
                    self.assertEqual(may_join(city, some), known)
            self.assertEqual(may_join(city, []), tuple(own.stretches))

    def test_just_so_many_stretches(self):
        self.assertEqual(may_join(STRETCHES_2000, ()), tuple(stretches(STRETCHES_2000)))
        self.assertEqual(may_join(STRETCHES_2000, seams(STRETCHES_2000, greatest_lot(STRETCHES_2000))), ())
        some = ((0, ""), (0, "S"))
        for city in (STRETCHES_2001, DOUBLED_60):
            self.raises(TooMany, {}, may_join, city, ())
            self.raises(TooMany, {}, may_join, city, ((0, ""),))
            self.raises(CanNot, {}, may_join, city, some)
            self.unfit(may_join, city, some[::-1])

    def test_is_fitting_of_odd_things(self):
        some = ((0, ""), (3, ""))
        self.assertIs(is_fitting(SQUARE, some), True)
        for thing in (list(some), listed_below(some, 1), some[::-1], some + some, None, (True,), ((True, ""),),
                      ((0, ""), (4, "")), tuple(stretches(SQUARE)) * 3000, ((0, ""),) * 100000):
            self.assertIs(is_fitting(SQUARE, thing), False)
        self.assertIs(is_fitting(STRETCHES_2000, tuple(stretches(STRETCHES_2000))), False)
        self.assertEqual(unfit_pair(STRETCHES_2000, stretches(STRETCHES_2000)), ((0, ""), (0, "S")))
        self.assertIs(is_fitting(DOUBLED_60, tuple((k, "") for k in range(60))), True)
        self.raises(CanNot, {}, unfit_pair, DOUBLED_60, tuple((k, "") for k in range(60)))

    def test_two_thousand_members(self):
        figures = Figures(165)
        some = tuple(sorted({some_stretch(figures, DOUBLED_60) for _ in range(2400)}))[:2000]
        self.assertEqual(len(some), 2000)
        pair = unfit_pair(DOUBLED_60, some)
        self.assertTrue(why_over(DOUBLED_60, *pair))
        for one in some[:some.index(pair[0]) + 1]:
            for other in some[:some.index(pair[1])] if one == pair[0] else some:
                if one != other:
                    self.assertFalse(lies_over(DOUBLED_60, one, other))
        self.assertIs(is_fitting(DOUBLED_60, some), False)


def some_stretch(figures, city):
    """Some STRETCH of a big CITY."""
    there, first = plain.nexts(city), figures.below(plain.size(city))
    at, moves = first, ""
    for _ in range(figures.below(60)):
        ways = [way for way in "ES" if there[way][at] is not None]
        if not ways:
            break
        moves += figures.one_of(ways)
        at = there[moves[-1]][at]
    return (first, moves)


class Rings(Checks):
    def test_sent_on_and_back(self):
        for city in LITTLE:
            own = town(city)
            by_seams = {own.seams(lot): lot for lot in own.fulls}
            by_rises = {own.rises(lot): lot for lot in own.fulls}
            for lot in own.fulls:
                self.assertEqual(sent_on(city, lot), by_seams[own.rises(lot)])
                self.assertEqual(sent_back(city, lot), by_rises[own.seams(lot)])
                self.assertEqual(sent_back(city, sent_on(city, lot)), lot)
                self.assertEqual(sent_on(listed(city), listed(sent_back(city, lot))), lot)
            self.assertEqual(sent_on(city, least_lot(city)), greatest_lot(city))
            self.assertEqual(sent_on(city, greatest_lot(city)), least_lot(city))

    def test_rings(self):
        for city in LITTLE:
            own, left = town(city), set(full_lots(city))
            while left:
                first = min(left)
                ring = ring_of(city, first)
                self.assertIsInstance(ring, list)
                self.assertEqual(len(set(ring)), len(ring))
                self.assertLessEqual(set(ring), left)
                for k, lot in enumerate(ring):
                    self.assertEqual(sent_on(city, lot), ring[(k + 1) % len(ring)])
                    self.assertEqual(times_sent(city, first, lot), k)
                    self.assertEqual(times_sent(city, lot, first), -k % len(ring))
                self.assertEqual(ring_of(city, ring[-1]), ring[-1:] + ring[:-1])
                left -= set(ring)
                for lot in sorted(left)[:5]:
                    self.raises(CanNot, {}, times_sent, city, first, lot)
            self.assertEqual(sorted(under(city, lot) for lot in full_lots(city)), sorted(own.unders.values()))

    def test_edges(self):
        self.assertEqual(fitting_sets(LONE), [(), ((0, ""),)])
        self.assertEqual(len(fitting_sets(APART)), 4)
        self.assertEqual(len(ring_of(LONE, least_lot(LONE))), 2)
        self.assertEqual(len(ring_of(line("E" * 59), least_lot(line("E" * 59)))), 2)
        self.assertEqual(times_sent(DOUBLED_60, least_lot(DOUBLED_60), greatest_lot(DOUBLED_60)), 1)
        self.assertEqual(len(fitting_sets(LOTS_2000)), 2000)
        for city in (LOTS_2002, DOUBLED_60, rectangle(3, 3)):
            self.raises(TooMany, {}, fitting_sets, city)

    def test_errors(self):
        lot = least_lot(ALLEY)
        for function in (seams, rises, sent_on, sent_back, ring_of):
            for wrong in ((), lot[1:], lot[::-1], lot + lot[-1:], None):
                self.unfit(function, ALLEY, wrong)
            self.unfit(function, (), lot)
        self.unfit(times_sent, ALLEY, lot, lot[1:])
        self.unfit(times_sent, ALLEY, lot[1:], lot)
        for function in (lot_of_seams, lot_of_rises, may_join, unfit_pair):
            self.unfit(function, ALLEY, ((0, "S"),))
            self.unfit(function, ALLEY, ((1, ""), (0, "")))
        self.unfit(why_over, ALLEY, (0, ""), (0, "S"))
        self.unfit(why_over, ALLEY, (0, "S"), (0, ""))


if __name__ == "__main__":
    unittest.main()

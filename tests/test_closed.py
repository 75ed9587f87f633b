"""Closed sets, promise 15."""

import unittest

from neverbrush.closed import above, closed_sets, closure, how_joined, is_above, is_closed, is_in_closure, is_under
from neverbrush.closed import lot_of_closed, parting, under, why_not_above, why_not_closed, why_not_under
from neverbrush.errors import CanNot, TooMany
from neverbrush.floors import line, rectangle
from neverbrush.forms import home, told_back
from neverbrush.lots import full_lots, greatest_lot, least_lot
from neverbrush.roads import passes
from neverbrush.seams import seams
from neverbrush.stretches import crossings_of, goes, is_stretch, over_pieces, stretches, under_pieces
from tests import plain
from tests.checks import Checks
from tests.made import APART, DOUBLED_60, LONE, LOTS_2000, LOTS_2002, SIXTIES, SQUARE, STRETCHES_2000, STRETCHES_2001
from tests.made import TWICE, Figures, listed, listed_below, made_table
from tests.plain_lots import LITTLE, TRIED, subsets, town

LONG = (0, "ES" * 29 + "E")


def sixty_lots(seed):
    figures = Figures(seed)
    return [(city, home(city, made_table(figures, plain.size(city), size))) for city in SIXTIES for size in (3, 999)]


def some_stretches(figures, city, many):
    """So many STRETCHES of a big CITY, of all lengths."""
    found = []
    while len(found) < many:
        at, moves = figures.below(plain.size(city)), ""
        there = plain.nexts(city)
        for _ in range(figures.below(60)):
            ways = [way for way in "ES" if there[way][crossings_of(city, (at, moves))[-1]] is not None]
            if not ways:
                break
            moves += figures.one_of(ways)
        found.append((at, moves))
    return found


class UnderAndAbove(Checks):
    def test_by_the_roads_themselves(self):
        for city in LITTLE:
            own = town(city)
            for lot in own.fulls:
                low, high = own.unders[lot], own.aboves[lot]
                self.assertEqual(under(city, lot), low)
                self.assertEqual(above(city, lot), high)
                for stretch in own.stretches:
                    self.assertIs(is_under(city, lot, stretch), stretch in low)
                    self.assertIs(is_above(city, lot, stretch), stretch in high)

    def test_each_told_by_the_other(self):
        for city in LITTLE:
            own = town(city)
            for lot in own.fulls:
                low, high = set(under(city, lot)), set(above(city, lot))
                self.assertEqual(high, {one for one in own.stretches if not low & set(own.under[one])})
                self.assertEqual(low, {one for one in own.stretches if not high & set(own.over[one])})

    def test_by_sums_of_any_table_with_all_roads(self):
        figures = Figures(151)
        for city in LITTLE:
            own = town(city)
            for lot in own.fulls[::3]:
                table = told_back(city, lot, [figures.between(1, 5) for _ in lot])
                for stretch in own.stretches:
                    low = [own.sum_along(part, table) for part in own.over[stretch]]
                    high = [own.sum_along(part, table) for part in own.under[stretch]]
                    self.assertIs(is_under(city, lot, stretch), max(low) < 0)
                    self.assertIs(is_above(city, lot, stretch), min(high) > 0)

    def test_why_not(self):
        for city in LITTLE:
            own = town(city)
            for lot in own.fulls[::2]:
                for stretch in own.stretches:
                    self.check_why(city, lot, stretch)

    def check_why(self, city, lot, stretch):
        for is_in, why_not, pieces, word in ((is_under, why_not_under, over_pieces, "low"),
                                             (is_above, why_not_above, under_pieces, "high")):
            if is_in(city, lot, stretch):
                self.raises(CanNot, {}, why_not, city, lot, stretch)
            else:
                part, road = why_not(city, lot, stretch)
                self.assertIn(part, pieces(city, stretch))
                self.assertIn(road, lot)
                self.assertEqual(goes(city, road, part), word)
                self.assertEqual(why_not(listed(city), listed(lot), list(stretch)), (part, road))

    def test_sixty(self):
        figures = Figures(152)
        for city, lot in sixty_lots(153):
            low, high = [], []
            for road in lot:
                rows = passes(city, road)
                moves = "".join(own[2] for own in rows)
                for k, (crossing, side, _) in enumerate(rows):
                    for n in range(k, len(rows)):
                        if (side, rows[n][2]) in (("W", "S"), ("N", "E")):
                            (low if side == "W" else high).append((crossing, moves[k:n]))
            low, high = set(low), set(high)
            for stretch in some_stretches(figures, city, 25):
                self.assertIs(is_under(city, lot, stretch), not low & set(over_pieces(city, stretch)))
                self.assertIs(is_above(city, lot, stretch), not high & set(under_pieces(city, stretch)))
                self.check_why(city, lot, stretch)
                self.check_parting(city, lot, stretch)
        for lot in (least_lot(DOUBLED_60), greatest_lot(DOUBLED_60)):
            self.assertIs(is_under(DOUBLED_60, lot, LONG), lot == greatest_lot(DOUBLED_60))
            self.assertIs(is_above(DOUBLED_60, lot, LONG), lot == least_lot(DOUBLED_60))

    def test_least_and_greatest(self):
        for city in LITTLE + [STRETCHES_2000]:
            self.assertEqual(under(city, least_lot(city)), ())
            self.assertEqual(above(city, greatest_lot(city)), ())
            self.assertEqual(under(city, greatest_lot(city)), tuple(stretches(city)))
            self.assertEqual(above(city, least_lot(city)), tuple(stretches(city)))
        for city in (STRETCHES_2001, DOUBLED_60):
            for function in (under, above):
                self.raises(TooMany, {}, function, city, least_lot(city))
                self.unfit(function, city, least_lot(city)[1:])

    def test_parting(self):
        for city in LITTLE:
            own = town(city)
            for lot in own.fulls:
                for stretch in own.stretches:
                    known = self.partings(own, lot, stretch)
                    self.assertEqual([parting(city, lot, stretch)], known)
            self.assertEqual(parting(listed(city), listed(lot), list(stretch)), known[0])

    def partings(self, own, lot, stretch):
        """All that are PARTINGS of stretch, by trying each way to cut it."""
        along, moves, found = plain.crossings(own.city, stretch), stretch[1], []
        for cuts in subsets(range(len(moves))):
            starts, stops = [0] + [k + 1 for k in cuts], list(cuts) + [len(moves)]
            parts = [(along[k], moves[k:n]) for k, n in zip(starts, stops)]
            for words in (("under", "above"), ("above", "under")):
                told = tuple((words[k % 2], part) for k, part in enumerate(parts))
                sets = {"under": own.unders[lot], "above": own.aboves[lot]}
                steps = [{"under": "S", "above": "E"}[word] for word, _ in told[:-1]]
                if all(part in sets[word] for word, part in told) and [moves[k] for k in cuts] == steps:
                    found.append(told)
        return found

    def check_parting(self, city, lot, stretch):
        rows = parting(city, lot, stretch)
        made = rows[0][1][1]
        for (word, part), (other, more) in zip(rows, rows[1:]):
            self.assertEqual({word, other}, {"under", "above"})
            made += {"under": "S", "above": "E"}[word] + more[1]
        self.assertEqual((rows[0][1][0], made), stretch)
        for word, part in rows:
            self.assertIs((is_under if word == "under" else is_above)(city, lot, part), True)
        self.assertEqual(sum((crossings_of(city, part) for _, part in rows), ()), crossings_of(city, stretch))


class ClosedSets(Checks):
    def test_all_sets_tried(self):
        for city in TRIED:
            own = town(city)
            known = []
            for some in subsets(own.stretches):
                lacks = own.lacks(some)
                self.assertIs(is_closed(city, some), not lacks)
                if lacks:
                    self.check_why(city, own, some)
                else:
                    known.append(some)
                    self.raises(CanNot, {}, why_not_closed, city, some)
            self.assertEqual(closed_sets(city), sorted(known))
            self.assertEqual(sorted(known), sorted(own.unders.values()))
            self.assertEqual({lot_of_closed(city, some): some for some in known}, own.unders)

    def check_why(self, city, own, some):
        why = why_not_closed(city, some)
        self.assertIn(len(why), (2, 3))
        self.assertIn(why[0], some)
        self.assertNotIn(why[-1], some)
        if len(why) == 2:
            self.assertIn(why[1], own.over[why[0]])
        else:
            self.assertIn(why[1], some)
            self.assertIn(why[2], own.joins(why[0], why[1]))

    def test_bigger_cities(self):
        for city in LITTLE:
            own = town(city)
            found = closed_sets(city)
            self.assertIsInstance(found, list)
            self.assertEqual(found, sorted(own.unders.values()))
            for lot, some in own.unders.items():
                self.assertEqual(lot_of_closed(city, some), lot)
                self.assertEqual(lot_of_closed(listed(city), listed(some)), lot)
                self.assertIs(is_closed(city, some), True)

    def test_the_roads_told_by_a_closed_set(self):
        for city in LITTLE[:30]:
            own = town(city)
            for lot, some in own.unders.items():
                others = [one for one in own.stretches if not set(own.under[one]) & set(some)]
                good = [road for road in own.roads
                        if not any(own.words[road].get(one) == "low" for one in some)
                        and not any(own.words[road].get(one) == "high" for one in others)]
                self.assertEqual(tuple(good), lot)

    def test_is_closed_of_odd_things(self):
        for thing in ([], [(0, "")], ([0, ""],), ((0, ""), (0, "")), ((3, ""), (0, "")), ((True, ""),), ((4, ""),),
                      None):
            self.assertIs(is_closed(SQUARE, thing), False)
        everyone = tuple(stretches(SQUARE))
        self.assertIs(is_closed(SQUARE, everyone), True)
        self.assertIs(is_closed(SQUARE, ()), True)
        self.assertIs(is_closed(SQUARE, everyone[1:]), False)
        self.assertIs(is_closed(SQUARE, everyone * 3000), False)
        for depth in range(2):
            self.assertIs(is_closed(SQUARE, listed_below(everyone, depth)), False)

    def test_long_closed_sets(self):
        everyone = tuple(stretches(STRETCHES_2000))
        self.assertIs(is_closed(STRETCHES_2000, everyone), True)
        self.assertEqual(lot_of_closed(STRETCHES_2000, everyone), greatest_lot(STRETCHES_2000))
        self.assertEqual(closure(STRETCHES_2000, everyone), everyone)
        self.assertIs(is_closed(STRETCHES_2000, everyone[:-9] + everyone[-8:]), False)
        more = tuple(sorted((first, moves) for first in range(60) for moves in ("E" * k for k in range(60 - first))))
        self.assertEqual(len(more), 1830)
        for city in (DOUBLED_60, line("E" * 59)):
            self.assertIs(is_closed(city, more), city != DOUBLED_60)
            self.assertEqual(len(why_not_closed(city, more[1:])), 2)
        self.assertEqual(why_not_closed(DOUBLED_60, more)[2][1].count("S"), 1)
        self.raises(CanNot, {}, lot_of_closed, DOUBLED_60, more)
        self.assertEqual(lot_of_closed(line("E" * 59), more), greatest_lot(line("E" * 59)))
        self.raises(CanNot, {}, why_not_closed, line("E" * 59), more)


class Closures(Checks):
    def test_closure_by_trying(self):
        figures = Figures(154)
        for city in LITTLE:
            own = town(city)
            sets = [()] + [(one,) for one in own.stretches] + [tuple(own.stretches)]
            sets += [tuple(one for one in own.stretches if not figures.below(4)) for _ in range(20)]
            for some in sets:
                known = own.closure(some)
                self.assertEqual(closure(city, some), known)
                self.assertEqual(closure(listed(city), listed(some)), known)
                self.assertIs(is_closed(city, known), True)
                for stretch in own.stretches:
                    self.check_joined(city, some, stretch, stretch in known)

    def check_joined(self, city, some, stretch, is_known):
        self.assertIs(is_in_closure(city, some, stretch), is_known)
        if not is_known:
            self.raises(CanNot, {}, how_joined, city, some, stretch)
            return
        parts = how_joined(city, some, stretch)
        self.assertIsInstance(parts, tuple)
        moves, at = stretch[1], 0
        along = crossings_of(city, stretch)
        for first, more in parts:
            self.assertEqual((first, more), (along[at], moves[at:at + len(more)]))
            self.assertTrue(any((first, more) in over_pieces(city, own) for own in some))
            at += len(more) + 1
        self.assertEqual(at, len(along))

    def test_closure_of_seams_of_sixty(self):
        figures = Figures(155)
        for city, lot in sixty_lots(156):
            some = seams(city, lot)
            for stretch in some_stretches(figures, city, 25) + list(some[:5]):
                self.check_joined(city, some, stretch, is_under(city, lot, stretch))

    def test_many_members(self):
        figures = Figures(157)
        some = tuple(sorted(set(some_stretches(figures, DOUBLED_60, 2300))))[:2000]
        self.assertEqual(len(some), 2000)
        for stretch in some_stretches(figures, DOUBLED_60, 5) + [LONG, (0, "E" * 59)]:
            self.check_joined(DOUBLED_60, some, stretch, is_in_closure(DOUBLED_60, listed(some), stretch))
        self.raises(TooMany, {}, closure, DOUBLED_60, some)
        self.assertEqual(len(why_not_closed(DOUBLED_60, some)), 2)
        long = tuple(sorted({(k, LONG[1][k:n]) for k in range(60) for n in range(k, 60)}))
        for own in (long, (LONG,)):
            self.assertIs(is_in_closure(DOUBLED_60, own, LONG), True)
            self.check_joined(DOUBLED_60, own, LONG, True)
            self.check_joined(DOUBLED_60, own, (0, "SE" * 29 + "S"), own == long)

    def test_just_so_many(self):
        some = closure(STRETCHES_2000, stretches(STRETCHES_2000)[::2])
        self.assertEqual(under(STRETCHES_2000, lot_of_closed(STRETCHES_2000, some)), some)
        everyone = plain.all_stretches(STRETCHES_2001)
        self.assertEqual(closure(STRETCHES_2001, everyone[:2000]), tuple(everyone[:2000]))
        self.raises(TooMany, {}, closure, STRETCHES_2001, everyone)
        for city, lone in ((STRETCHES_2000, True), (STRETCHES_2001, False)):
            ones = [(own, "") for own in range(plain.size(city))]
            if lone:
                self.assertEqual(closure(city, ones), tuple(stretches(city)))
            else:
                self.raises(TooMany, {}, closure, city, ones)
        ones = [(own, "") for own in range(60)]
        self.raises(TooMany, {}, closure, DOUBLED_60, ones)
        self.assertEqual(closure(DOUBLED_60, ones[::2]), tuple(ones[::2]))
        self.assertEqual(len(closure(line("E" * 59), ones)), 1830)
        self.assertEqual(closure(DOUBLED_60, ()), ())

    def test_how_many_closed_sets(self):
        self.assertEqual(len(closed_sets(LOTS_2000)), 2000)
        for city in (LOTS_2002, DOUBLED_60, rectangle(3, 3)):
            self.raises(TooMany, {}, closed_sets, city)
        self.assertEqual(closed_sets(LONE), [(), ((0, ""),)])
        self.assertEqual(len(closed_sets(APART)), 4)
        self.assertEqual(len(closed_sets(TWICE)), len(full_lots(TWICE)))


class Wrong(Checks):
    def test_order_of_the_checks(self):
        lot = least_lot(SQUARE)
        for function in (is_under, is_above, why_not_under, why_not_above, parting):
            self.unfit(function, SQUARE, lot, (0, "EE"))
            self.unfit(function, SQUARE, lot[1:], (0, "E"))
            self.unfit(function, (), lot, (0, "E"))
        self.unfit(closure, DOUBLED_60, ((0, "E"), (0, "")))
        self.unfit(how_joined, SQUARE, ((0, "E"), (0, "")), (0, "E"))
        self.unfit(how_joined, SQUARE, (), (0, "EE"))
        self.raises(CanNot, {}, how_joined, SQUARE, (), (0, "E"))
        self.unfit(lot_of_closed, SQUARE, ((0, "EE"),))
        self.raises(CanNot, {}, lot_of_closed, SQUARE, ((0, "E"),))
        self.assertTrue(is_stretch(SQUARE, (0, "E")))


if __name__ == "__main__":
    unittest.main()

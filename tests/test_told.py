"""Told roads, told seams, windows, promise 22."""

import unittest

from neverbrush.closed import is_under
from neverbrush.cuts import beside, lot_of_both
from neverbrush.errors import CanNot, NoCrossing, NoStretch, TooMany
from neverbrush.floors import line, rectangle
from neverbrush.forms import form_of, home
from neverbrush.lots import full_lots, goes_with, greatest_lot, is_full, is_lot, least_lot
from neverbrush.seams import lot_of_seams, rises, seams
from neverbrush.told import how_many_told, least_above, let_go, seen, told, told_lots, window, with_seams
from tests import plain
from tests.checks import Checks
from tests.made import APART, DOUBLED_60, LONE, LOTS_2000, LOTS_2002, SIXTIES, SQUARE, STRETCHES_2000, STRETCHES_2001
from tests.made import TWICE, Figures, listed, listed_below, made_table
from tests.plain_lots import LITTLE, subsets, town

FOUR = (("N", 1, "E"), ("W", 0, "SS"), ("W", 2, "ES"), ("W", 2, "S"))
LONG = (0, "ES" * 29 + "E")


def window_plainly(city, crossings):
    """The WINDOW as the document says it: neighbours stay neighbours."""
    number = {crossing: k for k, crossing in enumerate(crossings)}
    there, found = plain.nexts(city), []
    for way in "ES":
        links = {number[one]: number[other] for one, other in there[way].items() if one in number and other in number}
        streets = []
        for first in range(len(number)):
            if first not in links.values():
                row = [first]
                while row[-1] in links:
                    row.append(links[row[-1]])
                streets.append(tuple(row))
        found.append(tuple(streets))
    return tuple(found)


def seen_plainly(city, lot, crossings):
    """What is seen, gone along by own steps."""
    number = {crossing: k for k, crossing in enumerate(crossings)}
    there, found = window_plainly(city, crossings), set()
    for road in lot:
        rows = plain.passes(city, road)
        for k in range(len(rows)):
            for n in range(k, len(rows)):
                is_part = all(own[0] in number for own in rows[k:n + 1])
                is_greatest = (k == 0 or rows[k - 1][0] not in number) and (n + 1 == len(rows) or rows[n + 1][0] not in number)
                if is_part and is_greatest:
                    part = (rows[k][1], number[rows[k][0]], "".join(own[2] for own in rows[k:n + 1]))
                    if plain.bends(there, part):
                        found.add(part)
    return tuple(sorted(found))


class ToldRoads(Checks):
    def test_by_trying_all_full_lots(self):
        for city in LITTLE:
            own = town(city)
            for lot in own.lots[::1 if own.size < 4 else 3]:
                known = [full for full in own.fulls if set(lot) <= set(full)]
                found = told_lots(city, lot)
                self.assertIsInstance(found, list)
                self.assertEqual(found, known)
                self.assertEqual(how_many_told(city, lot), len(known))
                least, most = told(city, lot)
                self.assertEqual([least], [full for full in known if all(full in (one, least) or one in own.above(full)
                                                                         for one in known)])
                self.check_between(own, lot, known, told(listed(city), listed(lot)))
                self.assertEqual((least, most), told(city, lot))

    def check_between(self, own, lot, known, pair):
        low, high = [set(own.unders[full]) for full in pair]
        self.assertEqual(known, [full for full in own.fulls if low <= set(own.unders[full]) <= high])
        self.assertEqual(set(pair[0]) & set(pair[1]) if len(known) > 1 else set(lot), set(lot))
        for full, sign in zip(pair, (1, -1)):
            self.assertTrue(all(own.forms[full][k][1] == sign for k, road in enumerate(full) if road not in lot))

    def test_let_go_there_and_back(self):
        for city in LITTLE:
            own = town(city)
            for lot in own.fulls[::1 if own.size < 4 else 4]:
                forms = {stretch: road for road, (stretch, _) in zip(lot, own.forms[lot])}
                for some in subsets(sorted(forms)):
                    left = let_go(city, lot, some)
                    self.assertEqual(left, tuple(road for road in lot if road not in [forms[one] for one in some]))
                    self.assertEqual(let_go(listed(city), listed(lot), listed(some)), left)
                    if set(some) <= set(own.seams(lot)):
                        self.assertEqual(told(city, left)[1], lot)
                    if set(some) <= set(own.rises(lot)):
                        self.assertEqual(told(city, left)[0], lot)

    def test_edges(self):
        for city in LITTLE + SIXTIES:
            self.assertEqual(told(city, ()), (least_lot(city), greatest_lot(city)))
            for lot in (least_lot(city), greatest_lot(city)):
                self.assertEqual(told(city, lot), (lot, lot))
                self.assertEqual(told_lots(city, lot), [lot])
                self.assertEqual(how_many_told(city, lot), 1)
                self.assertEqual(let_go(city, lot, ()), lot)
        self.assertEqual(told_lots(LONE, ()), [(("N", 0, "E"),), (("W", 0, "S"),)])
        self.assertEqual(let_go(LONE, (("W", 0, "S"),), ((0, ""),)), ())

    def test_sixty(self):
        figures = Figures(221)
        for city in SIXTIES:
            lot = home(city, made_table(figures, 60, 40))
            for some in (lot[:30], lot[::2], lot[:59], lot[1:], lot[:57]):
                least, most = told(city, some)
                self.assertTrue(set(some) <= set(least) & set(most))
                for full, sign in ((least, 1), (most, -1)):
                    self.assertIs(is_full(city, full), True)
                    self.assertTrue(all(form_of(city, full, road)[1] == sign for road in full if road not in some))
                if len(some) < 50:
                    self.raises(TooMany, {}, told_lots, city, some)
                    self.raises(TooMany, {}, how_many_told, city, some)
                else:
                    self.check_told(city, lot, some)
            self.assertEqual(len(told_lots(city, lot[1:])), 2)
            for by_sign, place in ((seams, 1), (rises, 0)):
                steps = by_sign(city, lot)[::2]
                left = let_go(city, lot, steps)
                self.assertEqual(len(left), 60 - len(steps))
                self.assertEqual(told(city, left)[place], lot)
            self.assertEqual(let_go(city, lot, tuple(sorted(seams(city, lot) + rises(city, lot)))), ())

    def check_told(self, city, lot, some):
        found = told_lots(city, some)
        self.assertEqual(how_many_told(city, some), len(found))
        self.assertEqual(found, sorted(set(found)))
        self.assertGreaterEqual(len(found), 2 ** (60 - len(some)))
        for full in found:
            self.assertTrue(set(some) <= set(full) and is_full(city, full))
        for full in (lot,) + told(city, some):
            self.assertIn(full, found)

    def test_just_so_many(self):
        self.assertEqual(told_lots(LOTS_2000, ()), list(full_lots(LOTS_2000)))
        self.assertEqual(how_many_told(LOTS_2000, ()), 2000)
        for function in (told_lots, how_many_told):
            self.raises(TooMany, {}, function, LOTS_2002, ())
            self.raises(TooMany, {}, function, DOUBLED_60, ())
            self.unfit(function, DOUBLED_60, (("W", 0, "E" * 60),))
        far = line("B" * 49)
        lot = home(far, made_table(Figures(222), 50, 30))
        held = tuple(road for road in lot_of_both(LOTS_2000, far, least_lot(LOTS_2000), lot) if road[1] >= 10)
        city = beside(LOTS_2000, far)
        found = told_lots(city, held)
        self.assertEqual(len(found), 2000)
        self.assertEqual(found[7], tuple(sorted(full_lots(LOTS_2000)[7] + held)))
        city = beside(LOTS_2002, line("B" * 50))
        held = tuple(road for road in least_lot(city) if road[1] >= 7)
        self.raises(TooMany, {}, how_many_told, city, held)
        self.assertEqual(set(held), set(told(city, held)[0]) & set(told(city, held)[1]))

    def test_no_stretch(self):
        lot = (("N", 0, "ESS"), ("W", 0, "ESE"), ("W", 0, "ESS"), ("W", 2, "S"))
        self.raises(NoStretch, {"stretch": (1, "")}, let_go, SQUARE, lot, ((0, ""), (1, ""), (3, "")))
        self.raises(NoStretch, {"stretch": (0, "E")}, let_go, SQUARE, listed(lot), [[0, "E"], [1, ""]])
        self.unfit(let_go, SQUARE, lot, ((1, ""), (0, "E")))
        self.unfit(let_go, SQUARE, lot, ((0, "E"), (0, "EE")))
        self.unfit(let_go, SQUARE, lot[1:], ((0, "E"),))
        for city in LITTLE:
            own = town(city)
            for lot in own.fulls[::5]:
                known = own.seams(lot) + own.rises(lot)
                for some in subsets(own.stretches[:6]):
                    lacks = [one for one in some if one not in known]
                    if lacks:
                        self.raises(NoStretch, {"stretch": lacks[0]}, let_go, city, lot, some)


class ToldSeams(Checks):
    def test_with_seams_by_trying(self):
        for city in LITTLE:
            own = town(city)
            for some in [()] + [(one,) for one in own.stretches] + [own.seams(lot) for lot in own.fulls[::3]]:
                known = [lot for lot in own.fulls if set(some) <= set(own.seams(lot))]
                found = with_seams(city, some)
                self.assertIsInstance(found, list)
                self.assertEqual(found, known)
                self.assertEqual(with_seams(listed(city), listed(some)), known)
            for some in list(subsets(own.stretches[:7]))[::3]:
                if own.fits(some):
                    self.assertEqual(with_seams(city, some), [lot for lot in own.fulls if set(some) <= set(own.seams(lot))])
                else:
                    self.raises(CanNot, {}, with_seams, city, some)

    def test_least_above_by_trying(self):
        for city in LITTLE:
            own = town(city)
            for some in list(subsets(own.stretches[:8]))[::2] + [tuple(own.stretches)]:
                known = [lot for lot in own.fulls if set(some) <= set(own.unders[lot])]
                least = [lot for lot in known if all(set(own.unders[lot]) <= set(own.unders[other]) for other in known)]
                self.assertEqual([least_above(city, some)], least)
                self.assertEqual([least_above(listed(city), listed(some))], least)
                if own.fits(some):
                    self.assertEqual(own.seams(least[0]), some)

    def test_just_so_many(self):
        self.assertEqual(with_seams(LOTS_2000, ()), list(full_lots(LOTS_2000)))
        self.raises(TooMany, {}, with_seams, LOTS_2002, ())
        for city in (STRETCHES_2000, STRETCHES_2001):
            most = greatest_lot(city)
            self.raises(TooMany, {}, with_seams, city, ())
            self.raises(CanNot, {}, with_seams, city, ((0, ""), (0, "S")))
            self.unfit(with_seams, city, ((0, "S"), (0, "")))
            few = seams(city, most)[:-5]
            if city == STRETCHES_2000:
                self.assertEqual(with_seams(city, seams(city, most)), [most])
                found = with_seams(city, few)
                self.assertEqual(found, sorted(set(found)))
                self.assertIn(most, found)
                self.assertIn(lot_of_seams(city, few), found)
                for lot in found:
                    self.assertTrue(set(few) <= set(seams(city, lot)))
            else:
                self.raises(TooMany, {}, with_seams, city, seams(city, most))
        street = line("E" * 59)
        lot = home(street, made_table(Figures(223), 60, 40))
        few = seams(street, lot)
        self.assertIn(lot, told_lots(street, let_go(street, lot, few[:2])))
        most = greatest_lot(street)
        found = with_seams(street, seams(street, most)[4:])
        self.assertEqual(found, sorted(set(found)))
        self.assertEqual(len(found), 42)

    def test_sixty(self):
        figures = Figures(224)
        for city in SIXTIES:
            lot = home(city, made_table(figures, 60, 40))
            self.assertEqual(least_above(city, seams(city, lot)), lot)
            self.assertEqual(least_above(city, ()), least_lot(city))
            self.assertEqual(least_above(city, tuple((own, "") for own in range(60))), greatest_lot(city))
        above = least_above(DOUBLED_60, (LONG,))
        self.assertEqual(seams(DOUBLED_60, above), (LONG,))
        self.assertIs(is_under(DOUBLED_60, above, LONG), True)
        both = least_above(DOUBLED_60, ((0, "E"), LONG))
        for stretch in ((0, ""), (0, "E"), (0, "EE"), (2, ""), LONG):
            self.assertIs(is_under(DOUBLED_60, both, stretch), True)
        for stretch in ((1, ""), (0, "S"), (1, "E")):
            self.assertIs(is_under(DOUBLED_60, both, stretch), False)

    def test_many_members(self):
        figures, some = Figures(225), set()
        while len(some) < 2000:
            first = figures.below(60)
            some.add((first, "".join(figures.one_of("ES") for _ in range(figures.below(60 - first)))))
        lot = least_above(DOUBLED_60, tuple(sorted(some)))
        self.assertIs(is_full(DOUBLED_60, lot), True)
        for stretch in sorted(some)[::50]:
            self.assertIs(is_under(DOUBLED_60, lot, stretch), True)


class Windows(Checks):
    def test_all_sets_of_crossings(self):
        for city in LITTLE:
            own = town(city)
            for crossings in subsets(range(own.size)):
                if not crossings:
                    self.unfit(window, city, crossings)
                    continue
                there = window(city, crossings)
                self.assertEqual(there, window_plainly(city, crossings))
                self.assertEqual(window(listed(city), list(crossings)), there)
                for lot in own.fulls[::1 if own.size < 4 else 3]:
                    self.check_seen(own, lot, crossings, there)

    def check_seen(self, own, lot, crossings, there):
        found = seen(own.city, lot, crossings)
        self.assertEqual(found, seen_plainly(own.city, lot, crossings))
        self.assertEqual(seen(listed(own.city), listed(lot), list(crossings)), found)
        self.assertIn(found, town(there).fulls)
        known = [stretch for stretch in town(there).stretches
                 if (crossings[stretch[0]], stretch[1]) in own.unders[lot]]
        self.assertEqual(list(town(there).unders[found]), known)

    def test_edges(self):
        for city, lot in ((SQUARE, FOUR), (LONE, (("N", 0, "E"),)), (TWICE, least_lot(TWICE)), (APART, least_lot(APART))):
            everyone = tuple(range(plain.size(city)))
            self.assertEqual(window(city, everyone), city)
            self.assertEqual(seen(city, lot, everyone), lot)
            for own in everyone:
                self.assertEqual(window(city, (own,)), LONE)
                self.assertEqual(len(seen(city, lot, (own,))), 1)

    def test_sixty(self):
        figures = Figures(226)
        for city in SIXTIES:
            lot = home(city, made_table(figures, 60, 40))
            some = tuple(own for own in range(60) if figures.below(2))
            for crossings in ((0,), (59,), (30,), (0, 59), (5, 31, 58), tuple(range(60)), tuple(range(0, 60, 2)), some,
                              tuple(range(20, 41))):
                there = window(city, crossings)
                self.assertEqual(there, window_plainly(city, crossings))
                found = seen(city, lot, crossings)
                self.assertEqual(len(found), len(crossings))
                self.assertIs(is_full(there, found), True)
                if len(crossings) < 22:
                    self.assertEqual(found, seen_plainly(city, lot, crossings))
                for stretch in seams(there, found)[:5] + rises(there, found)[:5]:
                    self.assertIs(is_under(city, lot, (crossings[stretch[0]], stretch[1])), is_under(there, found, stretch))
            self.assertEqual(seen(city, lot, tuple(range(60))), lot)
        self.assertEqual(window(rectangle(6, 10), tuple(range(10))), line("E" * 9))
        self.assertEqual(window(DOUBLED_60, (0, 59)), APART)

    def test_no_crossing(self):
        lot = FOUR
        for crossings, least in (((1, 4, 5), 4), ((-2, -1, 9), -2), ((-1, 0), -1), ((4,), 4), ((10 ** 30,), 10 ** 30)):
            self.raises(NoCrossing, {"crossing": least}, window, SQUARE, crossings)
            self.raises(NoCrossing, {"crossing": least}, seen, SQUARE, lot, list(crossings))
            self.unfit(seen, SQUARE, lot[1:], crossings)
            self.unfit(window, SQUARE, crossings[::-1] + (0,))
        for crossings in ((), (0, 0), (1, 0), (True,), (9, True), None, 1, (None, 9), "0"):
            self.unfit(window, SQUARE, crossings)
            self.unfit(seen, SQUARE, lot, crossings)


class Wrong(Checks):
    def test_order_of_the_checks(self):
        self.unfit(told, SQUARE, (("W", 0, "EE"),))
        self.unfit(told_lots, SQUARE, (("N", 0, "ESS"), ("W", 0, "SS")))
        self.unfit(told, DOUBLED_60, [None])
        self.unfit(with_seams, SQUARE, ((0, "EE"),))
        self.unfit(least_above, SQUARE, ((1, ""), (0, "")))
        self.assertEqual(len(goes_with(SQUARE, ())), 14)
        for depth in range(3):
            self.assertEqual(told(SQUARE, listed_below(FOUR[:2], depth)), told(SQUARE, FOUR[:2]))
        self.assertIs(is_lot(SQUARE, FOUR[:2]), True)


if __name__ == "__main__":
    unittest.main()

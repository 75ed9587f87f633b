"""Cut cities, promise 20."""

import unittest

from neverbrush.bags import bag, is_some_bag, table_of
from neverbrush.climbs import is_below
from neverbrush.closed import is_above, is_under
from neverbrush.cuts import beside, broken_bag, broken_road, cut, greatest_ahead, is_gone, kept_crossings, kept_table
from neverbrush.cuts import least_ahead, lot_behind, lot_of_both, lots_ahead, lots_of_both, stretch_ahead
from neverbrush.errors import CanNot, NoCrossing, TooMany
from neverbrush.floors import line, rectangle
from neverbrush.forms import home
from neverbrush.lots import full_lots, greatest_lot, how_many_full, is_full, least_lot
from neverbrush.seams import rises, seams
from neverbrush.stretches import is_stretch
from tests import plain
from tests.checks import Checks
from tests.made import ALLEY, DOUBLED_60, LONE, LOTS_2000, LOTS_2002, NAMED, SIXTIES, SQUARE, TWICE, TWIN, Figures
from tests.made import listed, made_table
from tests.plain_lots import FOURS, LITTLE, town

TRIED = [city for city in LITTLE if plain.size(city) < 4] + FOURS[:3] + [SQUARE]


def streets_of_links(many, links):
    """The set of streets with these pairs of neighbours."""
    there, later = dict(links), {other for _, other in links}
    streets = []
    for first in range(many):
        if first not in later:
            row = [first]
            while row[-1] in there:
                row.append(there[row[-1]])
            streets.append(tuple(row))
    return tuple(streets)


def cut_plainly(city, crossing, way):
    """The cut CITY as the document says it; None if it can not be cut so."""
    many, there = plain.size(city), plain.nexts(city)
    links = {own: [(one, other) for one, other in there[own].items() if other is not None] for own in "ES"}
    if way == "0":
        if many == 1:
            return None
        for own in "ES":
            left = [pair for pair in links[own] if crossing not in pair]
            links[own] = [tuple(number - (number > crossing) for number in pair) for pair in left]
        return (streets_of_links(many - 1, links["E"]), streets_of_links(many - 1, links["S"]))
    if there[way][crossing] is None:
        return None
    links[way].remove((crossing, there[way][crossing]))
    return (streets_of_links(many, links["E"]), streets_of_links(many, links["S"]))


def broken_plainly(city, crossing, way, road):
    """The parts of a ROAD, as the document says them."""
    rows = [[]]
    for own in plain.passes(city, road):
        if way == "0" and own[0] == crossing:
            rows.append([])
            continue
        rows[-1].append(own)
        if (own[0], own[2]) == (crossing, way):
            rows.append([])
    found = []
    for row in rows:
        if row:
            first = row[0][0] - (1 if way == "0" and row[0][0] > crossing else 0)
            found.append((row[0][1], first, "".join(own[2] for own in row)))
    return found


def gone_plainly(city, crossing, way, stretch):
    along = plain.crossings(city, stretch)
    return crossing in along if way == "0" else (crossing, way) in zip(along, stretch[1])


def all_cuts(cities):
    """All (city, crossing, way, cut city) that can be."""
    return [(city, crossing, way, cut_plainly(city, crossing, way)) for city in cities
            for crossing in range(plain.size(city)) for way in "ES0" if cut_plainly(city, crossing, way)]


class Cutting(Checks):
    def test_cities(self):
        for city in LITTLE:
            for crossing in range(plain.size(city)):
                for way in "ES0":
                    there = cut_plainly(city, crossing, way)
                    if there is None:
                        for function in (cut, kept_crossings):
                            self.raises(CanNot, {}, function, city, crossing, way)
                        continue
                    self.assertEqual(cut(city, crossing, way), there)
                    self.assertEqual(cut(listed(city), crossing, way), there)
                    kept = tuple(own for own in range(plain.size(city)) if way != "0" or own != crossing)
                    self.assertEqual(kept_crossings(city, crossing, way), kept)
                    table = tuple(range(7, 7 + plain.size(city)))
                    self.assertEqual(kept_table(city, crossing, way, table), tuple(table[own] for own in kept))

    def test_edges(self):
        for way in "ES0":
            self.raises(CanNot, {}, cut, LONE, 0, way)
        self.assertEqual(cut(DOUBLED_60, 0, "E"), (((0,), tuple(range(1, 60))), (tuple(range(60)),)))
        self.assertEqual(cut(DOUBLED_60, 58, "S"), ((tuple(range(60)),), (tuple(range(59)), (59,))))
        self.assertEqual(cut(DOUBLED_60, 59, "0"), ((tuple(range(59)),), (tuple(range(59)),)))
        self.assertEqual(cut(DOUBLED_60, 0, "0"), ((tuple(range(59)),), (tuple(range(59)),)))
        self.assertEqual(cut(DOUBLED_60, 30, "0"), (line("B" * 29 + "0" + "B" * 28)))
        for way in "ES":
            self.raises(CanNot, {}, cut, DOUBLED_60, 59, way)
        self.assertEqual(cut(TWICE, 1, "0"), LONE)
        self.assertEqual(kept_table(TWICE, 0, "0", (10 ** 6, -10 ** 6)), (-10 ** 6,))

    def test_roads(self):
        for city, crossing, way, there in all_cuts(LITTLE):
            known = plain.all_roads(there)
            for road in plain.all_roads(city):
                parts = broken_road(city, crossing, way, road)
                self.assertIsInstance(parts, list)
                self.assertEqual(parts, broken_plainly(city, crossing, way, road))
                self.assertTrue(all(part in known for part in parts))
                self.assertEqual(broken_road(city, crossing, way, list(road)), parts)
        self.assertEqual(broken_road(TWICE, 0, "E", ("N", 0, "SE")), [("N", 0, "SE")])
        self.assertEqual(broken_road(TWICE, 0, "E", ("N", 0, "EE")), [("N", 0, "E"), ("W", 1, "E")])
        self.assertEqual(broken_road(ALLEY, 1, "0", ("N", 1, "S")), [])
        self.assertEqual(broken_road(ALLEY, 1, "0", ("N", 1, "EE")), [("W", 1, "E")])
        self.assertEqual(broken_road(ALLEY, 2, "0", ("W", 0, "EEE")), [("W", 0, "EE")])

    def test_stretches(self):
        for city, crossing, way, there in all_cuts(LITTLE):
            everyone = plain.all_stretches(city)
            for stretch in everyone:
                gone = is_gone(city, crossing, way, list(stretch))
                self.assertIs(gone, gone_plainly(city, crossing, way, stretch))
            kept = kept_crossings(city, crossing, way)
            ahead = []
            for stretch in plain.all_stretches(there):
                own = stretch_ahead(city, crossing, way, stretch)
                ahead.append(own)
                self.assertEqual(plain.crossings(city, own),
                                 tuple(kept[number] for number in plain.crossings(there, stretch)))
                self.assertEqual(own[1], stretch[1])
            left = [own for own in everyone if not gone_plainly(city, crossing, way, own)]
            self.assertEqual(sorted(ahead), left)


class Bags(Checks):
    def test_broken_beside_the_bag_of_the_cut_city(self):
        figures = Figures(201)
        for city, crossing, way, there in all_cuts(LITTLE):
            many = plain.size(city)
            for table in [(0,) * many, (1,) * many, (-1,) * many] + [made_table(figures, many) for _ in range(5)]:
                own = bag(city, table)
                found = broken_bag(city, crossing, way, own)
                self.assertEqual(found, bag(there, kept_table(city, crossing, way, table)))
                self.assertEqual(broken_bag(city, crossing, way, listed(own)), found)

    def test_sixty(self):
        figures = Figures(202)
        for city in SIXTIES:
            for size in (2, 10 ** 6):
                table = made_table(figures, 60, size)
                own = bag(city, table)
                for crossing, way in ((0, "0"), (59, "0"), (figures.below(60), "0"), (0, "E"), (0, "S"), (30, "E"), (31, "S")):
                    there = cut_plainly(city, crossing, way)
                    if there is not None:
                        found = broken_bag(city, crossing, way, own)
                        self.assertEqual(found, bag(there, kept_table(city, crossing, way, table)))
                        self.assertIs(is_some_bag(there, found), True)
                        self.assertEqual(table_of(there, found), kept_table(city, crossing, way, table))


class Lots(Checks):
    def test_behind_and_ahead_by_trying(self):
        for city, crossing, way, there in all_cuts(TRIED):
            own, other = town(city), town(there)
            behind = {lot: lot_behind(city, crossing, way, lot) for lot in own.fulls}
            for lot in own.fulls:
                parts = {part for road in lot for part in broken_plainly(city, crossing, way, road)
                         if plain.bends(there, part)}
                self.assertEqual(behind[lot], tuple(sorted(parts)))
            self.assertEqual(set(behind.values()), set(other.fulls))
            for lot in other.fulls:
                self.check_ahead(city, (crossing, way), lot, [full for full in own.fulls if behind[full] == lot])

    def check_ahead(self, city, told, lot, known):
        own, there = town(city), town(cut_plainly(city, *told))
        found = lots_ahead(city, *told, lot)
        self.assertIsInstance(found, list)
        self.assertEqual(found, known)
        self.assertEqual(lots_ahead(listed(city), *told, listed(lot)), known)
        for function, by_sign, others in ((least_ahead, seams, there.seams(lot)), (greatest_ahead, rises, there.rises(lot))):
            one = [full for full in known if not any(gone_plainly(city, *told, step) for step in by_sign(city, full))]
            self.assertEqual([function(city, *told, lot)], one)
            self.assertEqual(by_sign(city, one[0]), tuple(sorted(stretch_ahead(city, *told, step) for step in others)))
        least, most = least_ahead(city, *told, lot), greatest_ahead(city, *told, lot)
        self.assertEqual(known, sorted(full for full in own.above(least) if most in own.above(full)))

    def test_what_lies_below_stays_below(self):
        for city, crossing, way, there in all_cuts(TRIED):
            own = town(city)
            for lot in own.fulls:
                one = lot_behind(city, crossing, way, lot)
                for above in own.ups[lot].values():
                    other = lot_behind(city, crossing, way, above)
                    self.assertTrue(one == other or other in town(there).above(one))

    def test_under_of_what_is_not_gone(self):
        for city, crossing, way, there in all_cuts(TRIED):
            own, other = town(city), town(there)
            for lot in own.fulls[::2]:
                behind = lot_behind(city, crossing, way, lot)
                for stretch in other.stretches:
                    ahead = stretch_ahead(city, crossing, way, stretch)
                    self.assertEqual(ahead in own.unders[lot], stretch in other.unders[behind])
                    self.assertEqual(ahead in own.aboves[lot], stretch in other.aboves[behind])

    def test_sixty(self):
        figures = Figures(203)
        for city in SIXTIES:
            lot = home(city, made_table(figures, 60, 50))
            for crossing, way in ((0, "0"), (59, "0"), (30, "0"), (0, "E"), (58, "S"), (29, "E"), (31, "S")):
                there = cut_plainly(city, crossing, way)
                if there is None:
                    self.raises(CanNot, {}, lot_behind, city, crossing, way, lot)
                    continue
                behind = lot_behind(city, crossing, way, lot)
                self.assertIs(is_full(there, behind), True)
                least, most = [function(city, crossing, way, behind) for function in (least_ahead, greatest_ahead)]
                for ahead, by_sign in ((least, seams), (most, rises)):
                    self.assertEqual(lot_behind(city, crossing, way, ahead), behind)
                    self.assertEqual(by_sign(city, ahead), tuple(sorted(stretch_ahead(city, crossing, way, step)
                                                                        for step in by_sign(there, behind))))
                    self.assertFalse(any(is_gone(city, crossing, way, step) for step in by_sign(city, ahead)))
                self.assertTrue(least == lot or is_below(city, least, lot))
                self.assertTrue(most == lot or is_below(city, lot, most))
                for stretch in seams(there, behind)[:9]:
                    ahead = stretch_ahead(city, crossing, way, stretch)
                    self.assertTrue(is_under(city, lot, ahead) and not is_above(city, lot, ahead))
                self.raises(TooMany, {}, lots_ahead, city, crossing, way, behind)
        for crossing, way in ((0, "0"), (0, "E"), (58, "S"), (59, "0")):
            there = cut(DOUBLED_60, crossing, way)
            self.assertEqual(lot_behind(DOUBLED_60, crossing, way, least_lot(DOUBLED_60)), least_lot(there))
            self.assertEqual(least_ahead(DOUBLED_60, crossing, way, least_lot(there)), least_lot(DOUBLED_60))
            self.assertEqual(greatest_ahead(DOUBLED_60, crossing, way, greatest_lot(there)), greatest_lot(DOUBLED_60))

    def test_just_so_many(self):
        for way in "E0":
            there = cut(LOTS_2000, 0, way)
            lot = least_lot(there)
            found = lots_ahead(LOTS_2000, 0, way, lot)
            self.assertEqual(found, [full for full in full_lots(LOTS_2000) if lot_behind(LOTS_2000, 0, way, full) == lot])
            there = cut(LOTS_2002, 0, way)
            self.raises(TooMany, {}, lots_ahead, LOTS_2002, 0, way, least_lot(there))
            self.unfit(lots_ahead, LOTS_2002, 0, way, least_lot(there)[1:])
        total = sum(len(lots_ahead(SQUARE, 2, "E", lot)) for lot in full_lots(cut(SQUARE, 2, "E")))
        self.assertEqual(total, 42)


class Beside(Checks):
    def test_cities(self):
        for city in NAMED:
            for other in NAMED:
                many = plain.size(city)
                streets = [sorted(own + tuple(tuple(number + many for number in street) for street in more))
                           for own, more in zip(city, other)]
                self.assertEqual(beside(city, other), (tuple(streets[0]), tuple(streets[1])))
                self.assertEqual(beside(listed(city), listed(other)), beside(city, other))
        self.assertEqual(beside(DOUBLED_60, LONE)[0], (tuple(range(60)), (60,)))
        self.assertEqual(plain.size(beside(line("B" * 29), line("E" * 29))), 60)

    def test_full_lots(self):
        pairs = [(city, other) for city in LITTLE if plain.size(city) < 3 for other in LITTLE if plain.size(other) < 3]
        for city, other in pairs + [(ALLEY, LONE), (LONE, TWIN), (TWICE, ALLEY)]:
            both, found = beside(city, other), {}
            for lot in town(city).fulls:
                for more in town(other).fulls:
                    one = lot_of_both(city, other, lot, more)
                    found[one] = (lot, more)
                    self.assertEqual(lots_of_both(city, other, one), (lot, more))
                    self.assertEqual(lots_of_both(listed(city), other, listed(one)), (lot, more))
                    self.assertEqual(lot_of_both(city, listed(other), listed(lot), listed(more)), one)
            self.assertEqual(tuple(sorted(found)), full_lots(both))
            self.assertEqual(how_many_full(both), how_many_full(city) * how_many_full(other))

    def test_sixty(self):
        figures = Figures(204)
        for city, other in ((line("B" * 29), line("B" * 29)), (rectangle(5, 6), line("ES" * 14 + "B"))):
            lot = home(city, made_table(figures, 30, 30))
            more = home(other, made_table(figures, 30, 30))
            one = lot_of_both(city, other, lot, more)
            self.assertIs(is_full(beside(city, other), one), True)
            self.assertEqual(lots_of_both(city, other, one), (lot, more))


class Wrong(Checks):
    def test_no_crossing_and_can_not(self):
        road, stretch, lot = ("W", 0, "SES"), (0, "ES"), least_lot(SQUARE)
        of_city = ((kept_table, (0, 0, 0, 0)), (broken_road, road), (broken_bag, ()), (is_gone, stretch), (lot_behind, lot))
        of_cut = ((stretch_ahead, None), (least_ahead, None), (greatest_ahead, ()), (lots_ahead, lot))
        for crossing in (4, -1, -4, 10 ** 30):
            for way in "ES0":
                for function in (cut, kept_crossings):
                    self.raises(NoCrossing, {"crossing": crossing}, function, SQUARE, crossing, way)
                for function, value in of_city + of_cut:
                    self.raises(NoCrossing, {"crossing": crossing}, function, SQUARE, crossing, way, value)
                for function, _ in of_city:
                    self.unfit(function, SQUARE, crossing, way, None)
        for function, value in of_city + of_cut:
            self.raises(CanNot, {}, function, SQUARE, 1, "E", value)
            self.raises(CanNot, {}, function, SQUARE, 2, "S", value)
            self.unfit(function, SQUARE, 1, "W", value)
            self.unfit(function, SQUARE, True, "0", value)
            self.unfit(function, (), 9, "0", value)
        for function, _ in of_city:
            self.unfit(function, SQUARE, 1, "E", None)
        for function, _ in of_cut:
            for way in "S0":
                self.unfit(function, SQUARE, 1, way, None)
        for function, value in ((kept_table, (0,)), (broken_road, ("W", 0, "S")), (broken_bag, ()), (is_gone, (0, "")),
                                (stretch_ahead, (0, "")), (least_ahead, ()), (lots_ahead, ())):
            self.raises(CanNot, {}, function, LONE, 0, "0", value)

    def test_what_is_of_the_cut_city(self):
        self.unfit(stretch_ahead, SQUARE, 0, "E", (0, "E"))
        self.unfit(stretch_ahead, SQUARE, 1, "0", (3, ""))
        self.assertEqual(stretch_ahead(SQUARE, 1, "0", (2, "")), (3, ""))
        self.assertIs(is_stretch(SQUARE, (3, "")), True)
        for function in (least_ahead, greatest_ahead, lots_ahead):
            self.unfit(function, SQUARE, 1, "0", least_lot(SQUARE))
            self.unfit(function, SQUARE, 0, "E", least_lot(SQUARE))
        self.unfit(lot_behind, SQUARE, 1, "0", least_lot(cut(SQUARE, 1, "0")))

    def test_two_cities(self):
        self.unfit(beside, SQUARE, ())
        self.unfit(beside, (), SQUARE)
        lot, more = least_lot(SQUARE), least_lot(LONE)
        self.unfit(lot_of_both, SQUARE, LONE, more, lot)
        self.unfit(lot_of_both, SQUARE, LONE, lot, lot)
        self.unfit(lot_of_both, SQUARE, LONE, more, more)
        self.unfit(lots_of_both, SQUARE, LONE, lot)
        self.unfit(lots_of_both, LONE, SQUARE, lot_of_both(SQUARE, LONE, lot, more))


if __name__ == "__main__":
    unittest.main()

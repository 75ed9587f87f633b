"""Promise 1 over the whole program: its four sentences, tried; results of one file handed in to others."""

import unittest
from itertools import product

from neverbrush.bags import bag, is_some_bag, table_of
from neverbrush.climbs import climbed, is_below, join, meet
from neverbrush.closed import closed_sets, is_closed, lot_of_closed, under
from neverbrush.counts import by_seams
from neverbrush.cuts import beside, broken_bag, cut, lot_behind, lot_of_both, lots_ahead, lots_of_both
from neverbrush.desk import Desk
from neverbrush.exchange import exchanged, exchanges, newcomer
from neverbrush.floors import line, of_cells, points_of, of_points, rectangle
from neverbrush.forms import counts_in, forms, home, told_back
from neverbrush.judge import first_fallen, is_claim, is_so, reason_for
from neverbrush.lines import count_line, lot_of_ordering, ordering_of, orderings_of, sorted_bag, triangles_of
from neverbrush.lots import full_lots, how_many_full, is_full
from neverbrush.moved import lot_moved, numbers_to, renamed, renamed_back, turned_about
from neverbrush.seams import fitting_sets, is_fitting, lot_of_seams, rises, seams
from neverbrush.signs import text_of, words
from neverbrush.solid import best_lot, corner, lot_at
from neverbrush.texts import is_sheet, picture, read_picture, read_road, read_sheet, road_text, sheet_text
from neverbrush.told import let_go, seen, told, told_lots, window
from tests import plain
from tests.checks import Checks
from tests.made import DOUBLED_60, NAMED, SIXTIES, SMALL, SQUARE, Figures, made_table
from tests.plain_lots import LITTLE, town


def determinant(rows):
    """The determinant of a square table, by its first row."""
    if not rows:
        return 1
    return sum((-1) ** k * number * determinant([row[:k] + row[k + 1:] for row in rows[1:]])
               for k, number in enumerate(rows[0]) if number)


class Sentences(Checks):
    def test_a_just_one_bag(self):
        for city in SMALL:
            many = plain.size(city)
            known = {}
            for own in plain.all_bags(city, 2):
                known.setdefault(plain.table_of(city, own), []).append(own)
            for table in product(range(-1, 2), repeat=many):
                self.assertEqual(known.get(table, []) or [bag(city, table)], [bag(city, table)])
            for table, bags in known.items():
                self.assertEqual(bags, [bag(city, table)])

    def test_a_each_full_lot_is_a_basis(self):
        figures = Figures(271)
        for city in LITTLE:
            own = town(city)
            for lot in own.fulls:
                self.assertEqual(len(lot), own.size)
                self.assertIn(determinant([list(own.turns[road]) for road in lot]), (1, -1))
                for road in lot[:2]:
                    rest = tuple(other for other in lot if other != road)
                    self.assertEqual(sorted(own.more_for(rest)), sorted([road, newcomer(city, lot, road)]))
                table = made_table(figures, own.size, 2)
                counts = [sign * own.sum_along(stretch, table) for stretch, sign in forms(city, lot)]
                self.assertEqual(min(counts) >= 0, {road for road, _ in bag(city, table)} <= set(lot))
                if min(counts) >= 0:
                    self.assertEqual(tuple(pair for pair in zip(lot, counts) if pair[1]), bag(city, table))

    def test_b_closed_sets_and_seams_one_to_one(self):
        for city in LITTLE:
            own = town(city)
            lots = full_lots(city)
            self.assertEqual(sorted(under(city, lot) for lot in lots), closed_sets(city))
            self.assertEqual(sorted(seams(city, lot) for lot in lots), fitting_sets(city))
            for lot in lots[::3]:
                for other in lots[::4]:
                    is_in = set(under(city, lot)) <= set(under(city, other))
                    self.assertEqual(other in own.above(lot), is_in)
                    self.assertIs(is_below(city, lot, other), is_in and lot != other)
                    both = set(under(city, lot)) & set(under(city, other))
                    self.assertEqual(set(under(city, meet(city, lot, other))), both)
                    self.assertTrue(both <= set(under(city, join(city, lot, other))))
            self.assertEqual(by_seams(city), by_seams(city)[::-1])
            self.assertEqual(sum(by_seams(city)), len(lots))

    def test_c_no_lots_are_listed_for_a_bag(self):
        figures = Figures(272)
        for city in SIXTIES:
            for size in (1, 10 ** 6):
                table = made_table(figures, 60, size)
                found = bag(city, table)
                self.assertLessEqual(len(found), 60)
                self.assertEqual(table_of(city, found), table)

    def test_d_lines(self):
        figures = Figures(273)
        factorial = 1
        for many in range(1, 5):
            factorial *= many + 1
            word, street = "B" * (many - 1), "E" * (many - 1)
            lots = full_lots(line(word))
            self.assertEqual((len(lots), count_line(word)), (factorial, factorial))
            self.assertEqual(len({ordering_of(word, lot) for lot in lots}), factorial)
            cuts = {triangles_of(many, lot) for lot in full_lots(line(street))}
            self.assertEqual((len(cuts), count_line(street)), (how_many_full(line(street)),) * 2)
            for _ in range(9):
                table = made_table(figures, many)
                self.assertEqual(sorted_bag(word, table), bag(line(word), table))


class HandedIn(Checks):
    def test_results_of_one_file_in_another(self):
        figures = Figures(274)
        for city in list(NAMED) + [rectangle(2, 3)]:
            table = made_table(figures, plain.size(city), 9)
            lot = home(city, table)
            self.assertEqual(told_back(city, lot, counts_in(city, lot, table)), table)
            self.assertEqual(lot_of_seams(city, seams(city, lot)), lot)
            self.assertEqual(lot_at(city, corner(city, lot)), lot)
            self.assertEqual(told(city, let_go(city, lot, rises(city, lot)))[0], lot)
            self.assertEqual(told(city, let_go(city, lot, seams(city, lot)))[1], lot)
            self.assertEqual(best_lot(city, table), lot)
            sheet = (city, [table, corner(city, lot)], told_lots(city, lot[1:]) + [lot])
            self.assertEqual(read_sheet(text_of(words(sheet_text(sheet)))), (city, tuple(sheet[1]), tuple(sheet[2])))
            self.assertIs(is_sheet(read_sheet(sheet_text(sheet))), True)
            for road, _, _ in exchanges(city, lot):
                self.assertEqual(read_road(city, road_text(city, road)), road)
            claim = ("below", city, told(city, ())[0], lot)
            self.assertEqual(climbed(city, claim[2], reason_for(claim)), lot)
            claims = [claim, ("in", city, lot, table), ["full", city, list(lot)], ("fits", city, seams(city, lot))]
            self.assertIsNone(first_fallen(claims))
            desk = Desk(city)
            desk.say("\n".join(f"put {k} {number}" for k, number in enumerate(table)) + "\ngo")
            self.assertEqual((desk.city(), desk.lot(), desk.table()), (city, lot, table))
            self.assertIs(is_so(("in", desk.city(), desk.lot(), desk.table())), True)
            numbers = numbers_to(city, city)
            self.assertEqual(renamed(renamed(city, numbers), renamed_back(numbers)), city)
            there = turned_about(city)
            self.assertIs(is_full(there, lot_moved(city, lot, "about")), True)
            both = lot_of_both(city, there, lot, lot_moved(city, lot, "about"))
            self.assertEqual(lots_of_both(city, there, both), (lot, lot_moved(city, lot, "about")))
            self.assertEqual(told_lots(beside(city, there), both), [both])

    def test_cut_and_seen(self):
        lot = home(SQUARE, (3, -1, 2, -2))
        for crossing in range(4):
            kept = tuple(own for own in range(4) if own != crossing)
            self.assertEqual(window(SQUARE, kept), cut(SQUARE, crossing, "0"))
            self.assertEqual(seen(SQUARE, lot, kept), lot_behind(SQUARE, crossing, "0", lot))
            self.assertIn(lot, lots_ahead(SQUARE, crossing, "0", seen(SQUARE, lot, kept)))
            found = broken_bag(SQUARE, crossing, "0", bag(SQUARE, (3, -1, 2, -2)))
            self.assertIs(is_some_bag(cut(SQUARE, crossing, "0"), found), True)

    def test_lists_that_are_returned_may_be_handed_in(self):
        lots = orderings_of("EE", lot_of_ordering("EE", (3, 1, 0, 2)))
        self.assertEqual([lot_of_ordering("EE", own) for own in lots], [lot_of_ordering("EE", lots[0])] * 3)
        found = told_lots(SQUARE, ())
        self.assertEqual(sheet_text([SQUARE, [], found]).count("lot\n"), 42)
        for stretches in (closed_sets(SQUARE)[7], fitting_sets(SQUARE)[7]):
            self.assertTrue(is_closed(SQUARE, stretches) or is_fitting(SQUARE, stretches))
        self.assertEqual(lot_of_closed(SQUARE, list(max(closed_sets(SQUARE), key=len))), told(SQUARE, ())[1])
        claims = [("full", SQUARE, lot) for lot in found]
        self.assertTrue(all(map(is_claim, claims)))
        self.assertIsNone(first_fallen(claims))
        self.assertEqual(first_fallen(claims + [("full", SQUARE, found[0][1:])]), 42)

    def test_pictures_of_roads_of_lots(self):
        cells = ((0, 0), (0, 1), (0, 3), (1, 1), (1, 3))
        for road in full_lots(of_cells(cells))[0]:
            self.assertEqual(read_picture(picture(cells, road)), (cells, road))
        points = points_of(rectangle(2, 3))
        self.assertEqual(of_points(points), rectangle(2, 3))

    def test_sixty_from_file_to_file(self):
        table = made_table(Figures(275), 60, 999)
        desk = Desk(DOUBLED_60)
        desk.say("\n".join(f"put {k} {number}" for k, number in enumerate(table)) + "\ngo")
        lot = desk.lot()
        self.assertEqual(lot_of_ordering("B" * 59, ordering_of("B" * 59, lot)), lot)
        self.assertEqual(read_sheet(sheet_text((DOUBLED_60, (table,), (lot,)))), (DOUBLED_60, (table,), (lot,)))
        there = lot_behind(DOUBLED_60, 30, "0", lot)
        self.assertEqual(there, seen(DOUBLED_60, lot, [own for own in range(60) if own != 30]))
        self.assertEqual(told_lots(DOUBLED_60, lot[:5] + lot[6:]), sorted([lot, exchanged(DOUBLED_60, lot, lot[5])]))


if __name__ == "__main__":
    unittest.main()

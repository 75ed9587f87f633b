"""Counts by sums, promise 12."""

import unittest
from itertools import product

from neverbrush.bags import bag, table_of
from neverbrush.errors import CanNot, NoRoad, Unfit
from neverbrush.forms import counts_in, form_of, forms, high_roads, home, inner_table, is_forms, low_roads, stands
from neverbrush.forms import told_back, why_out
from neverbrush.lots import greatest_lot, is_full, least_lot
from neverbrush.roads import turns
from neverbrush.stretches import goes, sum_along
from tests import plain
from tests.checks import Checks
from tests.made import LONE, SIXTIES, SQUARE, Figures, listed, listed_below, made_cities, made_table
from tests.plain_lots import LITTLE, town

FOUR = (("N", 1, "E"), ("W", 0, "SS"), ("W", 2, "ES"), ("W", 2, "S"))


def big_lots():
    """Many pairs of a big CITY and a FULL LOT of it."""
    figures, found = Figures(121), []
    for city in SIXTIES + made_cities(12, 60, 122):
        for size in (2, 50):
            found.append((city, home(city, made_table(figures, plain.size(city), size))))
        found.extend([(city, least_lot(city)), (city, greatest_lot(city))])
    return found


BIG = big_lots()


class TheForms(Checks):
    def test_forms_by_trying_all_stretches(self):
        for city in LITTLE:
            own = town(city)
            for lot in own.fulls:
                self.assertEqual(forms(city, lot), own.forms[lot])
                self.assertEqual(forms(listed(city), listed(lot)), own.forms[lot])
                for road, form in zip(lot, own.forms[lot]):
                    self.assertEqual(form_of(city, lot, road), form)

    def test_is_forms(self):
        for city in LITTLE[:20]:
            for lot in town(city).fulls:
                own = forms(city, lot)
                self.assertIs(is_forms(city, lot, own), True)
                for thing in (list(own), listed_below(own, 1), listed_below(own, 2), own + own[:1], own[1:], None,
                              tuple((stretch, -sign) for stretch, sign in own), tuple((sign, s) for s, sign in own),
                              tuple((stretch, sign == 1) for stretch, sign in own)):
                    self.assertIs(is_forms(city, lot, thing), False)
                if own[::-1] != own:
                    self.assertIs(is_forms(city, lot, own[::-1]), False)

    def test_count_of_its_own_turns_is_one(self):
        for city, lot in BIG:
            tables = [turns(city, road) for road in lot]
            for k, (stretch, sign) in enumerate(forms(city, lot)):
                self.assertEqual(goes(city, lot[k], stretch), "low" if sign == 1 else "high")
                along = plain.crossings(city, stretch)
                self.assertEqual([sign * sum(table[own] for own in along) for table in tables],
                                 [1 if n == k else 0 for n in range(len(lot))])

    def test_no_road(self):
        for road in (("N", 0, "EE"), ("W", 0, "EE"), ("N", 0, "SS")):
            self.raises(NoRoad, {"road": road}, form_of, SQUARE, FOUR, road)
            self.raises(NoRoad, {"road": road}, form_of, listed(SQUARE), listed(FOUR), list(road))
        self.unfit(form_of, SQUARE, FOUR, ("W", 0, "S"))
        self.unfit(form_of, SQUARE, FOUR[1:], ("N", 0, "EE"))
        self.unfit(form_of, SQUARE, FOUR[1:], ("W", 0, "S"))

    def test_low_and_high(self):
        for city in LITTLE:
            own = town(city)
            for lot in own.fulls:
                for found, sign in ((low_roads(city, lot), 1), (high_roads(city, lot), -1)):
                    wanted = tuple(road for road, form in zip(lot, own.forms[lot]) if form[1] == sign)
                    self.assertEqual(found, wanted)
            self.assertEqual(low_roads(city, least_lot(city)), least_lot(city))
            self.assertEqual(high_roads(city, least_lot(city)), ())
            self.assertEqual(high_roads(city, greatest_lot(city)), greatest_lot(city))

    def test_ones_count_for_the_low_ones(self):
        for city, lot in BIG:
            counts = counts_in(city, lot, (1,) * plain.size(city))
            self.assertEqual(tuple(road for road, many in zip(lot, counts) if many > 0), low_roads(city, lot))
            self.assertEqual(len(low_roads(city, lot)) + len(high_roads(city, lot)), plain.size(city))


class Counts(Checks):
    def test_counts_and_tables_lead_to_one_another(self):
        figures = Figures(123)
        for city, lot in BIG + [(city, lot) for city in LITTLE for lot in town(city).fulls[::5]]:
            for size in (1, 5, 10 ** 6, 10 ** 20):
                table = made_table(figures, plain.size(city), size)
                counts = counts_in(city, lot, table)
                self.assertIsInstance(counts, tuple)
                self.assertEqual(counts, tuple(sign * sum_along(city, stretch, table)
                                               for stretch, sign in forms(city, lot)))
                self.assertEqual(told_back(city, lot, counts), table)
                self.assertEqual(told_back(city, lot, list(counts)), table)
                self.assertEqual(counts_in(city, lot, told_back(city, lot, table)), table)
                self.assertEqual(table_of_counts(city, lot, counts), table)

    def test_counts_add_up(self):
        figures = Figures(124)
        for city, lot in BIG:
            own, other = (made_table(figures, plain.size(city), 50) for _ in range(2))
            both = [one + more for one, more in zip(own, other)]
            self.assertEqual(counts_in(city, lot, both), tuple(one + more for one, more in zip(
                counts_in(city, lot, own), counts_in(city, lot, other))))

    def test_wrong_counts(self):
        for counts in ((1, 2, 3), (1, 2, 3, 4, 5), (), None, 4, "1234", (1, 2, 3, True), (1, 2, None, 4),
                       ((1, 2, 3, 4),)):
            self.unfit(told_back, SQUARE, FOUR, counts)
        self.unfit(told_back, SQUARE, FOUR[1:], (1, 2, 3))
        self.assertEqual(told_back(SQUARE, FOUR, (0, 0, 0, 0)), (0, 0, 0, 0))
        self.assertEqual(told_back(LONE, (("N", 0, "E"),), (-5,)), (5,))

    def test_inner_table(self):
        for city, lot in BIG + [(city, lot) for city in LITTLE for lot in town(city).fulls]:
            own = inner_table(city, lot)
            self.assertEqual(own, table_of_counts(city, lot, (1,) * len(lot)))
            self.assertEqual(counts_in(city, lot, own), (1,) * len(lot))
            self.assertEqual(bag(city, own), tuple((road, 1) for road in lot))


def table_of_counts(city, lot, counts):
    """The TURNS of the ROADS of lot, each so many times, added up."""
    table = [0] * plain.size(city)
    for road, many in zip(lot, counts):
        table = [number + many * more for number, more in zip(table, plain.turns(city, road))]
    return tuple(table)


class Standing(Checks):
    def check(self, city, lot, table):
        counts = counts_in(city, lot, table)
        word = "out" if min(counts) < 0 else "in" if min(counts) > 0 else "wall"
        self.assertEqual(stands(city, lot, table), word)
        if word == "out":
            k = [many < 0 for many in counts].index(True)
            self.assertEqual(why_out(city, lot, table), (lot[k], counts[k]))
        else:
            self.raises(CanNot, {}, why_out, city, lot, table)
            self.assertEqual(bag(city, table), tuple((road, many) for road, many in zip(lot, counts) if many))
        self.assertIs({road for road, _ in bag(city, table)} <= set(lot), word != "out")
        return word

    def test_where_tables_stand(self):
        for city in LITTLE:
            own = town(city)
            tables = list(product((-1, 0, 1), repeat=own.size))
            for table in tables[::1 if len(tables) * len(own.fulls) < 1500 else 11]:
                words = [self.check(city, lot, table) for lot in own.fulls]
                self.assertLessEqual(words.count("in"), 1)
                if "in" in words:
                    self.assertNotIn("wall", words)
                else:
                    self.assertGreaterEqual(words.count("wall"), 2)

    def test_big_ones(self):
        figures = Figures(125)
        for city, lot in BIG:
            self.check(city, lot, made_table(figures, plain.size(city), 10 ** 6))
            inside = told_back(city, lot, [figures.between(1, 10 ** 6) for _ in lot])
            self.assertEqual(self.check(city, lot, inside), "in")
            edge = told_back(city, lot, [figures.between(0, 2) for _ in lot][:-1] + [0])
            self.assertEqual(self.check(city, lot, edge), "wall")
            out = told_back(city, lot, [1] * (len(lot) - 1) + [-10 ** 6])
            self.assertEqual(why_out(city, lot, out), (lot[-1], -10 ** 6))
            self.assertEqual(self.check(city, lot, (0,) * len(lot)), "wall")

    def test_home(self):
        figures = Figures(126)
        for city in LITTLE + made_cities(20, 60, 127) + SIXTIES:
            size = plain.size(city)
            for most in (0, 1, 3, 10 ** 6):
                table = made_table(figures, size, most)
                lot = home(city, table)
                self.assertIs(is_full(city, lot), True)
                self.assertEqual(stands(city, lot, [(size + 1) * number + 1 for number in table]), "in")
                roads = {road for road, _ in bag(city, table)}
                self.assertLessEqual(roads, set(lot))
                self.assertLessEqual(set(lot) - roads, set(low_roads(city, lot)))
            self.assertEqual(home(city, (0,) * size), least_lot(city))

    def test_home_of_what_is_told_back(self):
        figures = Figures(128)
        for city, lot in BIG:
            counts = [figures.between(1, 9) for _ in lot]
            self.assertEqual(home(city, told_back(city, lot, counts)), lot)
            self.assertEqual(table_of(city, tuple(zip(lot, counts))), told_back(city, lot, counts))

    def test_errors(self):
        for function in (counts_in, stands, why_out):
            for wrong in ((0, 0, 0), (0, 0, 0, True), None):
                self.unfit(function, SQUARE, FOUR, wrong)
            self.unfit(function, SQUARE, FOUR[:3], (0, 0, 0, 0))
            self.unfit(function, SQUARE, (), (0, 0, 0))
        with self.assertRaises(Unfit):
            is_forms(SQUARE, FOUR[:3], None)


if __name__ == "__main__":
    unittest.main()

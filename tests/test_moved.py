"""Cities moved, promise 23."""

import unittest
from itertools import permutations, product
from math import factorial

from neverbrush.bags import bag
from neverbrush.cities import by_links, is_city, parts
from neverbrush.closed import is_above, is_under
from neverbrush.climbs import is_below
from neverbrush.cuts import beside
from neverbrush.errors import CanNot
from neverbrush.floors import line, rectangle
from neverbrush.forms import home
from neverbrush.lots import is_full, is_lot
from neverbrush.moved import are_alike, are_numbers, are_numbers_to, exchanged_sides, how_many_selves, lot_moved
from neverbrush.moved import numbers_to, renamed, renamed_back, road_moved, stretch_moved, table_moved, turned_about
from neverbrush.roads import turns
from neverbrush.seams import rises, seams
from tests import plain
from tests.checks import Checks
from tests.made import ALLEY, APART, DOUBLED_60, LONE, NAMED, ODD_THINGS, SIXTIES, SMALL, SQUARE, TWICE, TWIN, Figures
from tests.made import all_cities, listed, made_cities, made_table
from tests.plain_lots import LITTLE, town

OTHER = {"E": "S", "S": "E", "N": "W", "W": "N"}
WAYS = ("sides", "about")
ZIGZAG = by_links(4, ((0, 2), (1, 3)), ((0, 3), (1, 2)))


def moved(city, way):
    return exchanged_sides(city) if way == "sides" else turned_about(city)


def moved_plainly(city, way):
    if way == "sides":
        return (city[1], city[0])
    last = plain.size(city) - 1
    return tuple(tuple(sorted(tuple(sorted(last - own for own in street)) for street in streets)) for streets in city)


def negative(table):
    return tuple(-number for number in table)


def rising(city, numbers):
    return all(numbers[one] < numbers[other] for streets in city for street in streets
               for one, other in zip(street, street[1:]))


def renamed_plainly(city, numbers):
    return tuple(tuple(sorted(tuple(numbers[own] for own in street) for street in streets)) for streets in city)


def all_numbers(city):
    return [numbers for numbers in permutations(range(plain.size(city))) if rising(city, numbers)]


def made_numbers(figures, city):
    """Some numbers that rise along each street of city."""
    many, numbers, there = plain.size(city), {}, plain.nexts(city)
    ahead = {own: {one for way in "ES" for one, other in there[way].items() if other == own} for own in range(many)}
    while len(numbers) < many:
        free = [own for own in range(many) if own not in numbers and ahead[own] <= set(numbers)]
        numbers[figures.one_of(free)] = len(numbers)
    return tuple(numbers[own] for own in range(many))


class Moved(Checks):
    def test_cities(self):
        for city in LITTLE + SIXTIES + made_cities(30, 60, 231):
            for way in WAYS:
                there = moved(city, way)
                self.assertEqual(there, moved_plainly(city, way))
                self.assertIs(is_city(there), True)
                self.assertEqual(moved(listed(city), way), there)
                self.assertEqual(moved(there, way), city)
            self.assertEqual(exchanged_sides(turned_about(city)), turned_about(exchanged_sides(city)))

    def test_roads(self):
        for city in LITTLE:
            for way in WAYS:
                there = moved(city, way)
                known, found = plain.all_roads(there), []
                for road in plain.all_roads(city):
                    own = road_moved(city, road, way)
                    found.append(own)
                    self.assertEqual(turns(there, own), negative(table_moved(city, turns(city, road), way)))
                    self.assertEqual(road_moved(there, own, way), road)
                    self.assertEqual(road_moved(listed(city), list(road), way), own)
                    rows = plain.passes(city, road)
                    if way == "sides":
                        wanted = [(at, OTHER[side], OTHER[gone]) for at, side, gone in rows]
                    else:
                        last, back = plain.size(city) - 1, {"E": "W", "S": "N", "W": "E", "N": "S"}
                        wanted = [(last - at, back[gone], back[side]) for at, side, gone in reversed(rows)]
                    self.assertEqual(plain.passes(there, own), wanted)
                self.assertEqual(sorted(found), known)

    def test_stretches_low_goes_to_high(self):
        other = {"low": "high", "high": "low", "across": "across"}
        for city in LITTLE:
            for way in WAYS:
                there = moved(city, way)
                to = {one: stretch_moved(city, one, way) for one in plain.all_stretches(city)}
                self.assertEqual(sorted(to.values()), plain.all_stretches(there))
                for one, own in to.items():
                    self.assertEqual(stretch_moved(there, own, way), one)
                    self.assertEqual(stretch_moved(listed(city), list(one), way), own)
                    if way == "about":
                        along = plain.crossings(city, one)
                        self.assertEqual(plain.crossings(there, own), tuple(plain.size(city) - 1 - at for at in reversed(along)))
                    else:
                        self.assertEqual(plain.crossings(there, own), plain.crossings(city, one))
                for road in plain.all_roads(city)[::3]:
                    words = plain.parts_of_road(city, road)
                    wanted = {to[part]: other[word] for part, word in words.items()}
                    self.assertEqual(plain.parts_of_road(there, road_moved(city, road, way)), wanted)

    def test_tables_and_bags(self):
        figures = Figures(232)
        for city in LITTLE + SIXTIES:
            many = plain.size(city)
            for table in ((0,) * many, made_table(figures, many), made_table(figures, many, 10 ** 6)):
                for way in WAYS:
                    own = table_moved(city, table, way)
                    self.assertEqual(own, table if way == "sides" else table[::-1])
                    self.assertEqual(table_moved(city, list(table), way), own)
                    known = [(road_moved(city, road, way), often) for road, often in bag(city, table)]
                    self.assertEqual(bag(moved(city, way), negative(own)), tuple(sorted(known)))

    def test_lots(self):
        for city in LITTLE:
            own = town(city)
            for way in WAYS:
                there = moved(city, way)
                for lot in own.lots[::1 if own.size < 4 else 5]:
                    found = lot_moved(city, lot, way)
                    self.assertEqual(found, tuple(sorted(road_moved(city, road, way) for road in lot)))
                    self.assertIs(is_lot(there, found), True)
                    self.assertIs(is_full(there, found), len(lot) == own.size)
                    self.assertEqual(lot_moved(there, found, way), lot)
                    self.assertEqual(lot_moved(listed(city), listed(lot), way), found)

    def test_under_seams_below(self):
        for city in LITTLE:
            own = town(city)
            for way in WAYS:
                there = moved(city, way)
                to = {lot: lot_moved(city, lot, way) for lot in own.fulls}
                for lot, found in to.items():
                    move = {one: stretch_moved(city, one, way) for one in own.stretches}
                    for one in own.stretches:
                        self.assertIs(is_above(there, found, move[one]), one in own.unders[lot])
                        self.assertIs(is_under(there, found, move[one]), one in own.aboves[lot])
                    self.assertEqual(rises(there, found), tuple(sorted(move[one] for one in own.seams(lot))))
                    self.assertEqual(seams(there, found), tuple(sorted(move[one] for one in own.rises(lot))))
                    for other in own.fulls[::7]:
                        self.assertIs(is_below(there, to[other], found), is_below(city, lot, other))

    def test_both_ways(self):
        for city in LITTLE:
            own, sides = town(city), exchanged_sides(city)
            there = turned_about(sides)

            def both(move, value):
                return move(sides, move(city, value, "sides"), "about")

            self.assertEqual(there, exchanged_sides(turned_about(city)))
            for road in own.roads[::3]:
                self.assertEqual(turns(there, both(road_moved, road)), both(table_moved, turns(city, road)))
                words = {both(stretch_moved, part): word for part, word in own.words[road].items()}
                self.assertEqual(plain.parts_of_road(there, both(road_moved, road)), words)
            for lot in own.fulls[::4]:
                found = both(lot_moved, lot)
                self.assertEqual(seams(there, found), tuple(sorted(both(stretch_moved, one) for one in own.seams(lot))))
                for other in own.fulls[::9]:
                    self.assertIs(is_below(there, found, both(lot_moved, other)), is_below(city, lot, other))

    def test_edges(self):
        self.assertEqual(road_moved(LONE, ("W", 0, "S"), "about"), ("N", 0, "E"))
        self.assertEqual(road_moved(LONE, ("W", 0, "E"), "sides"), ("N", 0, "S"))
        self.assertEqual(lot_moved(LONE, (), "sides"), ())
        self.assertEqual(stretch_moved(LONE, (0, ""), "about"), (0, ""))
        self.assertEqual(road_moved(DOUBLED_60, ("W", 0, "E" * 20 + "S" * 40), "about"), ("N", 0, "S" * 39 + "E" * 21))

    def test_sixty(self):
        figures = Figures(233)
        for city in SIXTIES:
            lot = home(city, made_table(figures, 60, 40))
            for way in WAYS:
                there, found = moved(city, way), lot_moved(city, lot, way)
                self.assertIs(is_full(there, found), True)
                self.assertEqual(rises(there, found), tuple(sorted(stretch_moved(city, one, way) for one in seams(city, lot))))
                self.assertEqual(lot_moved(there, found, way), lot)

    def test_wrong(self):
        for way in ("E", None, "", "Sides", ("sides",)):
            self.unfit(road_moved, SQUARE, ("W", 0, "SS"), way)
            self.unfit(stretch_moved, SQUARE, (0, ""), way)
            self.unfit(table_moved, SQUARE, (0, 0, 0, 0), way)
            self.unfit(lot_moved, SQUARE, (), way)
        self.unfit(road_moved, SQUARE, ("W", 0, "S"), "sides")
        self.unfit(lot_moved, SQUARE, (("W", 0, "EE"),), "about")
        self.unfit(turned_about, (SQUARE[0],))


class Renaming(Checks):
    def test_numbers_by_trying_all(self):
        for city in LITTLE:
            known = all_numbers(city)
            for numbers in permutations(range(plain.size(city))):
                self.assertIs(are_numbers(city, numbers), numbers in known)
                self.assertIs(are_numbers(city, list(numbers)), False)
                if numbers in known:
                    there = renamed(city, numbers)
                    self.assertEqual(there, renamed_plainly(city, numbers))
                    self.assertEqual(renamed(listed(city), list(numbers)), there)
                    back = renamed_back(numbers)
                    self.assertEqual([back[own] for own in numbers], list(range(len(numbers))))
                    self.assertEqual(renamed(there, back), city)
                    self.assertEqual(renamed_back(list(back)), numbers)
                else:
                    self.unfit(renamed, city, numbers)

    def test_alike_by_trying_all(self):
        cities = list(NAMED) + SMALL + all_cities(4)[::11] + [ZIGZAG]
        kinds = {}
        for city in cities:
            kinds[city] = {renamed_plainly(city, numbers): numbers for numbers in all_numbers(city)}
            selves = [own for own in all_numbers(city) if renamed_plainly(city, own) == city]
            self.assertEqual(how_many_selves(city), len(selves))
            self.assertEqual(how_many_selves(listed(city)), len(selves))
        for city in cities:
            for other in cities:
                alike = other in kinds[city]
                self.assertIs(are_alike(city, other), alike)
                if alike:
                    numbers = numbers_to(city, listed(other))
                    self.assertEqual(numbers, numbers_to(city, other))
                    self.assertEqual(renamed_plainly(city, numbers), other)
                    self.assertIs(are_numbers_to(city, other, numbers), True)
                else:
                    self.raises(CanNot, {}, numbers_to, city, other)

    def test_are_numbers_to_by_trying_all(self):
        for city in (SQUARE, ALLEY, TWICE, TWIN, ZIGZAG, APART, LONE):
            for other in (SQUARE, SQUARE[::-1], ALLEY, TWIN, ZIGZAG, APART, LONE):
                for many in (1, 2, 3, 4):
                    for numbers in permutations(range(many)):
                        known = many == plain.size(city) and rising(city, numbers) and renamed_plainly(city, numbers) == other
                        self.assertIs(are_numbers_to(city, other, numbers), known)
                        self.assertIs(are_numbers_to(city, other, list(numbers)), False)

    def test_odd_things(self):
        for thing in ODD_THINGS + ((0, True), (False, 1), (0, 1.0), (0, 1, 2), (0, 0), (1, 2), "01", (0, (1,))):
            self.assertIs(are_numbers(APART, thing), False)
            self.assertIs(are_numbers_to(APART, APART, thing), False)
        for thing in ((0, 1), (1, 0)):
            self.assertIs(are_numbers(APART, thing), True)
            self.assertIs(are_numbers_to(APART, APART, thing), True)
        self.assertIs(are_numbers_to(APART, LONE, (0, 1)), False)
        self.assertIs(are_numbers_to(LONE, APART, (0,)), False)
        self.assertIs(are_numbers(LONE, (False,)), False)
        self.assertIs(are_numbers(LONE, (0,)), True)
        self.assertEqual(renamed_back(()), ())
        self.assertEqual(renamed_back([]), ())
        self.assertEqual(renamed_back(tuple(reversed(range(5000)))), tuple(reversed(range(5000))))

    def test_renaming_keeps_all(self):
        figures = Figures(234)
        for city in LITTLE + SIXTIES[:2]:
            numbers = made_numbers(figures, city)
            there, many = renamed(city, numbers), plain.size(city)
            table = made_table(figures, many)
            moved_table = tuple(table[own] for own in renamed_back(numbers))
            known = sorted(((side, numbers[first], moves), often) for (side, first, moves), often in bag(city, table))
            self.assertEqual(bag(there, moved_table), tuple(known))
            lot, other = home(city, table), home(there, moved_table)
            self.assertEqual(seams(there, other), tuple(sorted((numbers[first], moves) for first, moves in seams(city, lot))))

    def test_big_cities(self):
        figures = Figures(235)
        for city in SIXTIES + made_cities(20, 60, 236):
            numbers = made_numbers(figures, city)
            there = renamed(city, numbers)
            self.assertIs(are_numbers(city, numbers), True)
            self.assertIs(are_alike(city, there), True)
            found = numbers_to(city, there)
            self.assertEqual(renamed(city, found), there)
            self.assertIs(are_numbers_to(city, there, found), True)
            self.assertEqual(how_many_selves(there), how_many_selves(city))
            if there != city:
                self.assertIs(are_numbers_to(city, city, numbers), False)
        for city in (DOUBLED_60, line("E" * 59), rectangle(6, 10)):
            self.assertEqual(how_many_selves(city), 1)
        self.assertIs(are_alike(line("E" * 59), line("S" * 59)), False)
        self.assertIs(are_alike(rectangle(6, 10), rectangle(10, 6)), False)
        self.assertIs(are_alike(rectangle(6, 10), exchanged_sides(rectangle(10, 6))), True)
        self.assertIs(are_alike(rectangle(6, 10), turned_about(rectangle(6, 10))), True)

    def test_like_parts(self):
        self.assertEqual(how_many_selves(line("0" * 59)), factorial(60))
        self.assertEqual(how_many_selves(line("B0" * 29 + "B")), factorial(30))
        self.assertEqual(how_many_selves(line("E0S0" * 14 + "E0S")), factorial(15) ** 2)
        self.assertEqual(how_many_selves(ZIGZAG), 2)
        many = ZIGZAG
        for _ in range(14):
            many = beside(many, ZIGZAG)
        self.assertEqual(len(parts(many)), 15)
        self.assertEqual(how_many_selves(many), factorial(15) * 2 ** 15)
        figures = Figures(237)
        for city in (many, line("E0S0" * 14 + "E0S"), line("0" * 59)):
            there = renamed(city, made_numbers(figures, city))
            self.assertEqual(renamed(city, numbers_to(city, there)), there)
            self.assertEqual(how_many_selves(there), how_many_selves(city))
        one, other = line("E0EE0S"), line("S0EE0E")
        self.assertIs(are_alike(one, other), True)
        self.assertIs(are_alike(one, line("S0EE0S")), False)
        self.assertIs(are_alike(line("E0E"), ZIGZAG), False)

    def test_all_pairs_of_small_parts(self):
        for city, other in product((LONE, TWICE, ALLEY, APART, ZIGZAG), repeat=2):
            self.assertIs(are_alike(beside(city, other), beside(other, city)), True)
            numbers = numbers_to(beside(city, other), beside(other, city))
            self.assertEqual(renamed(beside(city, other), numbers), beside(other, city))

    def test_wrong(self):
        self.unfit(renamed, SQUARE, (0, 1, 2))
        self.unfit(renamed, SQUARE, (3, 1, 2, 0))
        self.unfit(renamed, (), (0, 1, 2, 3))
        self.unfit(numbers_to, SQUARE, ())
        self.unfit(numbers_to, (), SQUARE)
        self.unfit(are_alike, SQUARE, None)
        self.unfit(are_numbers_to, SQUARE, (), (0, 1, 2, 3))
        for numbers in (None, (1,), (0, 0), (0, True), (False,), (0, 2), "0", (0, "1"), (-1, 0), 3):
            self.unfit(renamed_back, numbers)


if __name__ == "__main__":
    unittest.main()

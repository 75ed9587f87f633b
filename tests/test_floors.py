"""Floors, promise 6."""

import unittest
from itertools import combinations, permutations

from neverbrush.cities import is_city, links, next_one
from neverbrush.errors import CanNot, Unfit
from neverbrush.floors import are_points, line, line_of, of_cells, of_points, points_of, rectangle, ring
from tests import plain
from tests.made import APART, DOUBLED_60, LONE, NAMED, SMALL, TWICE, Figures, all_cities, listed, made_cities

FIELD = [(down, across) for down in range(3) for across in range(3)]
FLOORS = [own for many in range(1, 10) for own in combinations(FIELD, many)]


def made_floor(figures, many, high, wide):
    return tuple(sorted({(figures.below(high), figures.below(wide)) for _ in range(many)}))


def plain_cells(cells):
    """The links of of_cells, pair by pair."""
    found = ([], [])
    for k, (down, across) in enumerate(cells):
        for n, other in enumerate(cells):
            if other == (down, across + 1):
                found[0].append((k, n))
            if other == (down + 1, across):
                found[1].append((k, n))
    return (tuple(sorted(found[0])), tuple(sorted(found[1])))


def plain_points(points):
    """The links of of_points, by looking for the nearest one."""
    found = ([], [])
    for k, (down, across) in enumerate(points):
        row = [own for own in points if own[0] == down and own[1] > across]
        column = [own for own in points if own[1] == across and own[0] > down]
        if row:
            found[0].append((k, points.index(min(row))))
        if column:
            found[1].append((k, points.index(min(column))))
    return (tuple(found[0]), tuple(found[1]))


def has_points(city):
    """Whether the document's guarantee says that there are points, all orders of columns tried."""
    if any(street[k + 1] != street[k] + 1 for street in city[0] for k in range(len(street) - 1)):
        return False
    for order in permutations(range(len(city[1]))):
        place = {crossing: order[n] for n, street in enumerate(city[1]) for crossing in street}
        if all(place[street[k]] < place[street[k + 1]] for street in city[0] for k in range(len(street) - 1)):
            return True
    return False


class Floors(unittest.TestCase):
    def test_of_cells(self):
        for cells in FLOORS:
            city = of_cells(cells)
            self.assertIs(is_city(city), True)
            self.assertEqual(links(city), plain_cells(cells))

    def test_of_points(self):
        for points in FLOORS:
            city = of_points(points)
            self.assertIs(is_city(city), True)
            self.assertEqual(links(city), plain_points(points))

    def test_alike_where_no_cell_lacks_between(self):
        for cells in FLOORS:
            lacks = any((k, across) not in cells for down, across in cells for other, same in cells
                        if same == across for k in range(down, other))
            lacks = lacks or any((down, k) not in cells for down, across in cells for same, other in cells
                                 if same == down for k in range(across, other))
            self.assertIs(of_cells(cells) == of_points(cells), not lacks)

    def test_far_cells(self):
        far = ((0, 10 ** 6), (10 ** 6 - 1, 10 ** 6), (10 ** 6, 0), (10 ** 6, 10 ** 6))
        self.assertEqual(of_cells(far), (((0,), (1,), (2,), (3,)), ((0,), (1, 3), (2,))))
        self.assertEqual(of_points(far), (((0,), (1,), (2, 3)), ((0, 1, 3), (2,))))
        self.assertIs(are_points(of_points(far), far), True)
        self.assertEqual(of_cells(((7, 9),)), LONE)
        self.assertEqual(of_points(((0, 0),)), LONE)

    def test_sixty(self):
        row = tuple((0, k) for k in range(60))
        self.assertEqual(of_cells(row), rectangle(1, 60))
        self.assertEqual(of_points(tuple((k * 3, 5) for k in range(60))), rectangle(60, 1))

    def test_rectangle_and_ring(self):
        for high in range(1, 9):
            for wide in range(1, 60 // high + 1):
                cells = [(down, across) for down in range(high) for across in range(wide)]
                rim = [(down, across) for down, across in cells
                       if down == 0 or down == high - 1 or across == 0 or across == wide - 1]
                self.assertEqual(rectangle(high, wide), of_cells(cells))
                self.assertEqual(ring(high, wide), of_cells(rim))
                self.assertEqual(ring(high, wide) == rectangle(high, wide), min(high, wide) <= 2)
        self.assertEqual(rectangle(1, 1), LONE)
        self.assertEqual(ring(1, 1), LONE)
        self.assertEqual(plain.size(rectangle(6, 10)), 60)
        self.assertEqual(plain.size(ring(6, 10)), 28)

    def test_unfit(self):
        for call in (lambda: of_cells(()), lambda: of_points([]), lambda: of_cells(((0, 1), (0, 0))),
                     lambda: of_points(((0, 0), (0, 0))), lambda: of_cells(((0, -1),)), lambda: rectangle(0, 1),
                     lambda: rectangle(1, 0), lambda: ring(True, 1), lambda: ring(1, "1"), lambda: line("EX"),
                     lambda: line(("E",)), lambda: line("e"), lambda: line(None), lambda: line_of(()),
                     lambda: points_of((((0,),),)), lambda: are_points(LONE, ()), lambda: are_points((), ((0, 0),))):
            with self.assertRaises(Unfit) as caught:
                call()
            self.assertEqual(vars(caught.exception), {})


class Lines(unittest.TestCase):
    def test_line(self):
        words = [""]
        for _ in range(4):
            words += [word + letter for word in words for letter in "ESB0"]
        for word in set(words):
            city = line(word)
            self.assertEqual(plain.size(city), len(word) + 1)
            for k, letter in enumerate(word):
                self.assertEqual(next_one(city, k, "E"), k + 1 if letter in "EB" else None)
                self.assertEqual(next_one(city, k, "S"), k + 1 if letter in "SB" else None)
            self.assertIsNone(next_one(city, len(word), "E"))
            self.assertIsNone(next_one(city, len(word), "S"))
            self.assertEqual(line_of(city), word)

    def test_edges(self):
        self.assertEqual(line(""), LONE)
        self.assertEqual(line_of(LONE), "")
        self.assertEqual(line("0"), APART)
        self.assertEqual(line("B"), TWICE)
        self.assertEqual(line("B" * 59), DOUBLED_60)
        self.assertEqual(line_of(DOUBLED_60), "B" * 59)
        self.assertEqual(line("E" * 59), rectangle(1, 60))
        self.assertEqual(line_of(rectangle(60, 1)), "S" * 59)

    def test_line_of_all_small_cities(self):
        for city in SMALL + all_cities(4):
            is_line = all(other == one + 1 for pairs in links(city) for one, other in pairs)
            if is_line:
                self.assertEqual(line(line_of(city)), city)
            else:
                with self.assertRaises(CanNot) as caught:
                    line_of(city)
                self.assertEqual(vars(caught.exception), {})


class Points(unittest.TestCase):
    def found(self, city):
        points = points_of(city)
        self.assertIsInstance(points, tuple)
        self.assertEqual(points, tuple(sorted(set(points))))
        for pair in points:
            self.assertEqual([type(pair)] + [type(own) for own in pair], [tuple, int, int])
            self.assertGreaterEqual(min(pair), 0)
        self.assertEqual(of_points(points), city)
        self.assertIs(are_points(city, points), True)
        self.assertIs(are_points(listed(city), listed(points)), True)
        self.assertEqual(points_of(listed(city)), points)

    def none(self, city):
        with self.assertRaises(CanNot) as caught:
            points_of(city)
        self.assertEqual(vars(caught.exception), {})

    def test_found_exactly_if_there_are_some(self):
        for city in SMALL + all_cities(4) + list(NAMED) + made_cities(80, 6, 11):
            if has_points(city):
                self.found(city)
            else:
                self.none(city)

    def test_all_cities_of_floors_have_points(self):
        for points in FLOORS:
            self.found(of_points(points))
        figures = Figures(12)
        for _ in range(60):
            self.found(of_points(made_floor(figures, figures.between(1, 60), 9, 9)))
            self.found(of_points(made_floor(figures, figures.between(1, 60), 10 ** 6, 4)))

    def test_no_other_city_of_four_has_points(self):
        field = [(down, across) for down in range(4) for across in range(4)]
        some = {of_points(own) for many in (1, 2, 3, 4) for own in combinations(field, many)}
        for city in SMALL + all_cities(4):
            if city in some:
                self.found(city)
            else:
                self.none(city)

    def test_are_points(self):
        cells = ((0, 0), (0, 1), (0, 3), (1, 1), (1, 3))
        self.assertIs(are_points(of_points(cells), cells), True)
        self.assertIs(are_points(of_cells(cells), cells), False)
        self.assertIs(are_points(LONE, cells), False)
        self.assertIs(are_points(of_points(cells), cells[:-1]), False)
        for points in FLOORS[:100]:
            for other in FLOORS[:100]:
                self.assertIs(are_points(of_points(points), other), of_points(points) == of_points(other))

    def test_sixty(self):
        self.found(rectangle(6, 10))
        self.found(rectangle(1, 60))
        self.found(ring(10, 6))
        self.found(line("E0S" * 19 + "ES"))
        self.none(line("E" * 58 + "B"))
        self.none(DOUBLED_60)


if __name__ == "__main__":
    unittest.main()

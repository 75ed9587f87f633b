"""Floors: cities made of cells, of points, of a word."""

from neverbrush.errors import CanNot, Unfit
from neverbrush.fits import fit_from, fit_plan
from neverbrush.kinds import are_numbers_all, as_row, as_row_of, is_rising
from neverbrush.plans import streets_by

LETTERS = "ESB0"


def fit_floor(value):
    """The list, not empty, of the pairs (down, across) of numbers from 0 that value is the set of."""
    rows = as_row(value)
    if not rows:
        raise Unfit()
    pairs = [as_row_of(own, 2) for own in rows]
    if not all([is_place(pair) for pair in pairs]) or not is_rising(pairs):
        raise Unfit()
    return pairs


def is_place(pair):
    """Whether pair is not None and a pair of numbers from 0."""
    return pair is not None and are_numbers_all(pair) and pair[0] >= 0 and pair[1] >= 0


def of_cells(cells):
    """The CITY in which ways lead to the cell right beside, right below."""
    return city_of_cells(fit_floor(cells))


def city_of_cells(cells):
    """The CITY of cells in tuples."""
    numbers = {cells[k]: k for k in range(len(cells))}
    east = [numbers.get((down, across + 1)) for down, across in cells]
    south = [numbers.get((down + 1, across)) for down, across in cells]
    return (streets_by(east), streets_by(south))


def of_points(points):
    """The CITY in which ways lead to the next point with the same down, the same across."""
    return city_of_points(fit_floor(points))


def city_of_points(points):
    """The CITY of points in tuples."""
    return (streets_by(next_alike(points, 0)), streets_by(next_alike(points, 1)))


def next_alike(points, place):
    """The list of the number of the next point with the same number at place, None if there is none."""
    there, last = [None] * len(points), {}
    for k in range(len(points)):
        number = points[k][place]
        if number in last:
            there[last[number]] = k
        last[number] = k
    return there


def rectangle(high, wide):
    """The CITY of all cells with down below high, across below wide."""
    fit_from(high, 1)
    fit_from(wide, 1)
    return city_of_cells([(down, across) for down in range(high) for across in range(wide)])


def ring(high, wide):
    """The CITY of the cells of the rectangle that lie on its rim."""
    fit_from(high, 1)
    fit_from(wide, 1)
    return city_of_cells([(down, across) for down in range(high) for across in range(wide)
                          if down in (0, high - 1) or across in (0, wide - 1)])


def line(word):
    """The CITY in which each letter of word tells how its two crossings are joined."""
    if not isinstance(word, str) or any([letter not in LETTERS for letter in word]):
        raise Unfit()
    return (streets_by(next_in_line(word, "E")), streets_by(next_in_line(word, "S")))


def next_in_line(word, way):
    """The list of the next ones by way: the next number, or None."""
    return [k + 1 if k < len(word) and word[k] in (way, "B") else None for k in range(len(word) + 1)]


def line_of(city):
    """The word of which city is the line; CanNot() if there is none."""
    plan = fit_plan(city)
    east, south = plan.nexts["E"], plan.nexts["S"]
    if any([there[k] not in (None, k + 1) for there in (east, south) for k in range(plan.size)]):
        raise CanNot()
    return "".join([letter_between(east[k], south[k]) for k in range(plan.size - 1)])


def letter_between(east, south):
    """The letter of two crossings, told by the next ones of the first, None if there is none."""
    if east is not None:
        return "E" if south is None else "B"
    return "0" if south is None else "S"


def points_of(city):
    """Points of which city is of_points; CanNot() if there are none.

    Each east street is a row of points, so its crossings must be numbered on end; each south street is
    a column, so the columns must have an order in which all rows go on.
    """
    plan = fit_plan(city)
    east, south = plan.streets
    if any([there not in (None, k + 1) for k, there in enumerate(plan.nexts["E"])]):
        raise CanNot()
    column_of = street_numbers(south)
    place_of = places_in_order(len(south), later_columns(plan, column_of))
    row_of = street_numbers(east)
    return tuple([(row_of[k], place_of[column_of[k]]) for k in range(plan.size)])


def street_numbers(streets):
    """For each crossing the number of its street."""
    return {crossing: k for k in range(len(streets)) for crossing in streets[k]}


def later_columns(plan, column_of):
    """For each column the list of columns that must lie behind it."""
    later = [[] for _ in plan.streets[1]]
    for crossing in range(plan.size):
        there = plan.nexts["E"][crossing]
        if there is not None:
            later[column_of[crossing]].append(column_of[there])
    return later


def places_in_order(many, later):
    """The list of the places of many things, each ahead of its later ones; CanNot() if there is no order."""
    waits = [0] * many
    for own in [other for row in later for other in row]:
        waits[own] += 1
    ready = [own for own in range(many) if waits[own] == 0]
    place_of, placed = [None] * many, 0
    while ready:
        own = ready.pop()
        place_of[own], placed = placed, placed + 1
        for other in later[own]:
            waits[other] -= 1
            if waits[other] == 0:
                ready.append(other)
    if placed < many:
        raise CanNot()
    return place_of


def are_points(city, points):
    """Whether city is of_points of points."""
    plan = fit_plan(city)
    return city_of_points(fit_floor(points)) == plan.streets

"""Lines: full lots told by orderings of places, bags by sorting; one street: a polygon cut into triangles.

Between the places 0 to N lie the crossings of a line: a table's sum along the stretch from crossing a to
crossing b is what place a holds more than place b + 1. So each form of a full lot tells which one of two places
stands ahead of the other one in all orderings that tell the lot, and these are just all that keep to the forms.
"""

from neverbrush.errors import CanNot, TooMany, Unfit
from neverbrush.fits import fit_from, fit_road, fit_table
from neverbrush.floors import line
from neverbrush.fulls import fit_full, full_from
from neverbrush.kinds import are_numbers_all, as_row, as_row_of, is_rising
from neverbrush.ladders import MOST_LOTS
from neverbrush.plans import Plan, side_behind
from neverbrush.polygons import corners_of, diagonal_from, diagonals_among, road_by_corners, triangles_by
from neverbrush.routes import is_turning
from neverbrush.rows import Rows


def fit_line(word):
    """The plan of the line of the WORD word."""
    return Plan(line(word))


def fit_places(plan, value):
    """The set of PLACES value."""
    places = as_row(value)
    if places is None or not are_numbers_all(places) or not is_rising(places):
        raise Unfit()
    if places and (places[0] < 0 or places[-1] > plan.size):
        raise Unfit()
    return places


def roads_by_places(plan, places):
    """The list of the bent ROADS of places, a dict of True for each of them; they are found one behind the other."""
    found, road = [], ("W" if 0 in places else "N", 0, "")
    for crossing in range(plan.size):
        way = "E" if crossing + 1 in places else "S"
        side, first, moves = road
        road = (side, first, moves + way)
        if plan.nexts[way][crossing] is None:
            if is_turning(road):
                found.append(road)
            road = (side_behind(way), crossing + 1, "")
    return found


def roads_of_places(word, places):
    """The set of the bent ROADS of PLACES."""
    plan = fit_line(word)
    own = fit_places(plan, places)
    return tuple(sorted(roads_by_places(plan, {place: True for place in own})))


def places_of(word, road):
    """The PLACES whose ROAD road is, straight or not; CanNot() if not all letters are "B"."""
    plan = fit_line(word)
    side, _, moves = fit_road(plan, road)
    if any([letter != "B" for letter in word]):
        raise CanNot()
    begun = (0,) if side == "W" else ()
    return begun + tuple([crossing + 1 for crossing in range(plan.size) if moves[crossing] == "E"])


def ordering_from(plan, value):
    """The ORDERING in a tuple, None if value is none."""
    ordering = as_row_of(value, plan.size + 1)
    if ordering is None or not are_numbers_all(ordering):
        return None
    return ordering if sorted(ordering) == list(range(plan.size + 1)) else None


def fit_ordering(plan, value):
    """The ORDERING value."""
    ordering = ordering_from(plan, value)
    if ordering is None:
        raise Unfit()
    return ordering


def is_ordering(word, thing):
    """Whether thing is an ORDERING of word."""
    ordering = ordering_from(fit_line(word), thing)
    return ordering is not None and ordering == thing


def lot_told_by(plan, ordering):
    """The FULL LOT that an ORDERING tells."""
    places, found = {}, {}
    for place in ordering[:-1]:
        places[place] = True
        found.update({road: True for road in roads_by_places(plan, places)})
    return tuple(sorted(list(found)))


def lot_of_ordering(word, ordering):
    """The FULL LOT that ordering tells."""
    plan = fit_line(word)
    return lot_told_by(plan, fit_ordering(plan, ordering))


class Order:
    """What the FORMS of a FULL LOT tell of all ORDERINGS that tell it.

    By place, behind are the places that must stand behind it, waits how many must stand ahead of it.
    """

    def __init__(self, plan, lot):
        self.behind = [[] for _ in range(plan.size + 1)]
        self.waits = [0] * (plan.size + 1)
        for (first, moves), sign in Rows(plan, lot).forms:
            last = first + len(moves) + 1
            ahead, later = (first, last) if sign == 1 else (last, first)
            self.behind[ahead].append(later)
            self.waits[later] += 1

    def waits_behind(self, waits, place):
        """The waits when place, for which none must be waited any more, has been put; it itself is not free again."""
        found = list(waits)
        found[place] = -1
        for later in self.behind[place]:
            found[later] -= 1
        return found


def free_places(waits):
    """The ascending list of the places that may be put next."""
    return [place for place in range(len(waits)) if waits[place] == 0]


def ordering_of(word, lot):
    """The ORDERING with the fewest inversions that tells lot.

    Its inversions are those that all others have, too: so of the places that may come next it has the least.
    """
    plan = fit_line(word)
    order = Order(plan, fit_full(plan, lot))
    found, waits = [], order.waits
    for _ in range(plan.size + 1):
        found.append(free_places(waits)[0])
        waits = order.waits_behind(waits, found[-1])
    return tuple(found)


def orderings_of(word, lot):
    """The ascending list of all ORDERINGS that tell lot; TooMany() if they are not few.

    What has been begun in keeping with the forms can always be gone on with, so each of row leads to some.
    """
    plan = fit_line(word)
    order = Order(plan, fit_full(plan, lot))
    found, row = [], [((), order.waits)]
    while row:
        if len(found) + len(row) > MOST_LOTS:
            raise TooMany()
        begun, waits = row.pop()
        if len(begun) > plan.size:
            found.append(begun)
        for place in reversed(free_places(waits)):
            row.append((begun + (place,), order.waits_behind(waits, place)))
    return found


def tell_one(word, ordering, other):
    """Whether two ORDERINGS tell one LOT."""
    plan = fit_line(word)
    own = fit_ordering(plan, ordering)
    return lot_told_by(plan, own) == lot_told_by(plan, fit_ordering(plan, other))


def levels_of(table):
    """The list of what the places hold: 0, then each the one ahead less the number at the crossing between them."""
    levels = [0]
    for number in table:
        levels.append(levels[-1] - number)
    return levels


def sorted_bag(word, table):
    """The BAG of table, told by sorting what the places hold."""
    plan = fit_line(word)
    levels = levels_of(fit_table(plan, table))
    values, many = sorted(list({level: True for level in levels})), {}
    for k in range(1, len(values)):
        places = {place: True for place in range(len(levels)) if levels[place] >= values[k]}
        for road in roads_by_places(plan, places):
            many[road] = many.get(road, 0) + values[k] - values[k - 1]
    return tuple([(road, many[road]) for road in sorted(list(many))])


def count_line(word):
    """How many FULL LOTS line(word) has.

    A line with "0" is one in parts; "S" counts as "E". The places between two "0" are told by the letters
    ahead of them; the first one, and that behind a "0", count as "B".
    """
    fit_line(word)
    total, known = 1, {"": 1}
    for part in word.split("0"):
        total *= count_places("B" + part.replace("S", "E") + "B", known)
    return total


def count_places(letters, known):
    """How many classes of orderings of places with these letters "E", "B" there are; known tells it of some.

    The last place is the same in all orderings of a class. If it has "E", those on its two sides may stand as
    they like to one another, so these are told apart from one another; if it has "B", the others are told
    as if it were not there.
    """
    if letters not in known:
        total = 0
        for k in range(len(letters)):
            if letters[k] == "E":
                total += count_places(letters[:k], known) * count_places(letters[k + 1:], known)
            else:
                total += count_places(letters[:k] + letters[k + 1:], known)
        known[letters] = total
    return known[letters]


def fit_street(many):
    """The plan of one street of many crossings."""
    return Plan(line("E" * (fit_from(many, 1) - 1)))


def diagonal_of(many, road):
    """The pair of the corners of a bent ROAD of the street of many crossings."""
    plan = fit_street(many)
    own = fit_road(plan, road)
    if not is_turning(own):
        raise Unfit()
    return corners_of(plan, own)


def road_of_diagonal(many, diagonal):
    """The bent ROAD with these corners."""
    plan = fit_street(many)
    pair = diagonal_from(plan, diagonal)
    if pair is None:
        raise Unfit()
    return road_by_corners(plan, pair)


def triangles_of(many, lot):
    """The set of the triangles into which the diagonals of lot cut the polygon."""
    plan = fit_street(many)
    return triangles_by(plan, [corners_of(plan, road) for road in fit_full(plan, lot)])


def fit_triples(plan, value):
    """The row value of as many triples of numbers as a FULL LOT has triangles."""
    rows = as_row_of(value, plan.size + 1)
    if rows is None:
        raise Unfit()
    triples = [as_row_of(own, 3) for own in rows]
    if not all([own is not None and are_numbers_all(own) for own in triples]):
        raise Unfit()
    return tuple(triples)


def lot_of_triangles(many, triangles):
    """The FULL LOT with just these triangles."""
    plan = fit_street(many)
    triples = fit_triples(plan, triangles)
    diagonals = diagonals_among(plan, triples)
    lot = full_from(plan, sorted([road_by_corners(plan, own) for own in diagonals]))
    if lot is None or triangles_by(plan, diagonals) != triples:
        raise Unfit()
    return lot

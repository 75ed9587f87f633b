"""Lots, forms, closed sets, seams, climbs of small cities: the document's words tried out plainly."""

from itertools import combinations

from tests import plain
from tests.made import NAMED, SMALL, made_cities

KNOWN = {}


def town(city):
    """What is known about a CITY, worked out once."""
    if city not in KNOWN:
        KNOWN[city] = Town(city)
    return KNOWN[city]


def subsets(row):
    """All subsets of row, ascending in each."""
    for many in range(len(row) + 1):
        yield from combinations(row, many)


class Town:
    """A small CITY with all its LOTS, found by putting ROADS together by twos."""

    def __init__(self, city):
        self.city = city
        self.size = plain.size(city)
        self.roads, self.bad = plain.brush_table(city)
        self.lots = sorted(plain.all_lots(city))
        self.fulls = [lot for lot in self.lots if not self.more_for(lot)]
        self.stretches = plain.all_stretches(city)
        self.over = {own: plain.over_pieces(city, own) for own in self.stretches}
        self.under = {own: plain.under_pieces(city, own) for own in self.stretches}
        self.overs = {(own, other) for own in self.stretches for other in self.stretches
                      if set(self.over[own]) & set(self.under[other])}
        self.words = {road: plain.parts_of_road(city, road) for road in self.roads}
        self.turns = {road: plain.turns(city, road) for road in self.roads}
        self.unders = {lot: self.under_of(lot) for lot in self.fulls}
        self.aboves = {lot: self.above_of(lot) for lot in self.fulls}
        self.forms = {lot: self.forms_of(lot) for lot in self.fulls}
        self.near = {lot: self.near_of(lot) for lot in self.fulls}
        self.ups = {lot: self.ups_of(lot) for lot in self.fulls}

    def more_for(self, lot):
        """The bent ROADS, none of lot, that no ROAD of it brushes."""
        return tuple(road for road in self.roads
                     if road not in lot and not any((road, own) in self.bad for own in lot))

    def sum_along(self, stretch, table):
        return sum(table[crossing] for crossing in plain.crossings(self.city, stretch))

    def form_of(self, lot, road):
        """The list of all pairs (stretch, sign) that may be the FORM of road."""
        found = []
        for stretch in self.stretches:
            sign = {"low": 1, "high": -1}.get(self.words[road].get(stretch), 0)
            if sign and all(sign * self.sum_along(stretch, self.turns[own]) == (1 if own == road else 0)
                            for own in lot):
                found.append((stretch, sign))
        return found

    def forms_of(self, lot):
        rows = [self.form_of(lot, road) for road in lot]
        if any(len(row) != 1 for row in rows):
            raise AssertionError("not just one form")
        return tuple(row[0] for row in rows)

    def by_sign(self, lot, sign):
        return tuple(sorted(stretch for stretch, own in self.forms[lot] if own == sign))

    def seams(self, lot):
        return self.by_sign(lot, -1)

    def rises(self, lot):
        return self.by_sign(lot, 1)

    def under_of(self, lot):
        low = {part for road in lot for part, word in self.words[road].items() if word == "low"}
        return tuple(own for own in self.stretches if not low & set(self.over[own]))

    def above_of(self, lot):
        high = {part for road in lot for part, word in self.words[road].items() if word == "high"}
        return tuple(own for own in self.stretches if not high & set(self.under[own]))

    def exchange(self, lot, other):
        """The EXCHANGE by which two FULL LOTS become one another, or None."""
        gone, come = [road for road in lot if road not in other], [road for road in other if road not in lot]
        if len(gone) != 1:
            return None
        found = [(gone[0], come[0], part) if word == "low" else (come[0], gone[0], part)
                 for part, word in self.words[gone[0]].items()
                 if (word, self.words[come[0]].get(part)) in (("low", "high"), ("high", "low"))]
        if len(found) != 1:
            raise AssertionError("not just one stretch")
        return found[0]

    def near_of(self, lot):
        """By EXCHANGE the FULL LOT that lot becomes."""
        steps = [(self.exchange(lot, other), other) for other in self.fulls]
        return {step: other for step, other in steps if step}

    def ups_of(self, lot):
        """By STRETCH the FULL LOT to which lot is led up by it."""
        return {step[2]: other for step, other in self.near[lot].items() if step[0] in lot}

    def above(self, lot):
        """lot and all FULL LOTS to which CLIMBS lead from it, by own steps."""
        found, row = {lot}, [lot]
        while row:
            for other in self.ups[row.pop()].values():
                if other not in found:
                    found.add(other)
                    row.append(other)
        return found

    def lies_over(self, stretch, other):
        return (stretch, other) in self.overs

    def fits(self, stretches):
        return not any((own, other) in self.overs for own in stretches for other in stretches if own != other)

    def joins(self, stretch, other):
        """The STRETCHES that go along the one, by a move, along the other."""
        last = plain.crossings(self.city, stretch)[-1]
        there = plain.nexts(self.city)
        return [(stretch[0], stretch[1] + way + other[1]) for way in "ES" if there[way][last] == other[0]]

    def lacks(self, stretches):
        """What a set must have to be CLOSED, and has not."""
        own = set(stretches)
        wanted = {part for stretch in own for part in self.over[stretch]}
        wanted |= {more for stretch in own for other in own for more in self.joins(stretch, other)}
        return wanted - own

    def closure(self, stretches):
        own = set(stretches)
        while self.lacks(own):
            own |= self.lacks(own)
        return tuple(sorted(own))


FOURS = [city for city in dict.fromkeys(made_cities(90, 4, 101)) if plain.size(city) == 4 and city not in NAMED][:14]

# CITIES of up to four crossings, all of up to three.
LITTLE = list(dict.fromkeys(list(NAMED) + SMALL + FOURS))

# Those of them in which all sets of STRETCHES are soon tried.
TRIED = [city for city in LITTLE if len(plain.all_stretches(city)) <= 11]

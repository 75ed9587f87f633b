"""Roads that brush, promise 9."""

import unittest

from neverbrush.brushing import brushed_by, brushes, common_parts, crosses, do_brush, how_many_brushes, how_many_go
from neverbrush.brushing import meetings, passes_within, some_brushing
from neverbrush.errors import CanNot, Unfit
from neverbrush.floors import line, rectangle
from neverbrush.roads import how_many_roads, is_bent, is_road, passes, road_at
from neverbrush.stretches import is_stretch, sum_along
from tests import plain
from tests.made import BOW, DOUBLED_60, LONE, NAMED, SMALL, SQUARE, TWICE, Figures, made_cities

LITTLE = list(NAMED) + SMALL
MIDDLE = LITTLE + made_cities(12, 6, 51)
OTHER = {"low": "high", "high": "low", "cross": "cross", "along": "along"}


def plain_word(city, road, other, part):
    """The word of a common part, from where both come and how they leave."""
    along = plain.crossings(city, part)
    mine = {own[0]: own for own in plain.passes(city, road)}
    others = {own[0]: own for own in plain.passes(city, other)}
    come = (mine[along[0]][1], others[along[0]][1])
    gone = (mine[along[-1]][2], others[along[-1]][2])
    if come == ("W", "N") and gone == ("S", "E"):
        return "low"
    if come == ("N", "W") and gone == ("E", "S"):
        return "high"
    if (come, gone) in ((("W", "N"), ("E", "S")), (("N", "W"), ("S", "E"))):
        return "cross"
    return "along"


def places(road):
    """The PLACES of a ROAD of a city doubled throughout."""
    return ([0] if road[0] == "W" else []) + [k + 1 for k, way in enumerate(road[2]) if way == "E"]


class TwoRoads(unittest.TestCase):
    def test_common_parts_and_words(self):
        for city in MIDDLE:
            everyone = plain.all_roads(city)
            for road in everyone[:30]:
                for other in everyone[-30:]:
                    own = plain.common_parts(city, road, other)
                    words = [plain_word(city, road, other, part) for part in own]
                    rows = tuple(zip(own, words))
                    self.assertEqual(common_parts(city, road, other), tuple(own))
                    self.assertEqual(meetings(city, road, other), rows)
                    wanted = tuple(plain.brushing(city, road, other))
                    self.assertEqual(brushes(city, road, other), wanted)
                    self.assertEqual(wanted, tuple(sorted(pair for pair in rows if pair[1] in ("low", "high"))))
                    self.assertIs(do_brush(city, road, other), bool(wanted))
                    self.assertEqual(crosses(city, road, other),
                                     tuple(sorted(part for part, word in rows if word == "cross")))

    def test_either_way_round(self):
        for city in MIDDLE:
            everyone = plain.all_roads(city)
            for road in everyone[:25]:
                for other in everyone[::3]:
                    turned = tuple((part, OTHER[word]) for part, word in meetings(city, road, other))
                    self.assertEqual(meetings(city, other, road), turned)
                    self.assertIs(do_brush(city, other, road), do_brush(city, road, other))

    def test_along_exactly_by_one_beginning_or_end(self):
        for city in LITTLE:
            everyone = plain.all_roads(city)
            for road in everyone:
                for other in everyone:
                    for part, word in meetings(city, road, other):
                        mine, others = plain.passes(city, road), plain.passes(city, other)
                        last = plain.crossings(city, part)[-1]
                        begin = road[:2] == other[:2] and part[0] == road[1]
                        end = mine[-1][::2] == others[-1][::2] and mine[-1][0] == last
                        self.assertIs(word == "along", begin or end)

    def test_alike_roads(self):
        for city in MIDDLE:
            for road in plain.all_roads(city):
                self.assertEqual(meetings(city, road, road), (((road[1], road[2][:-1]), "along"),))
                self.assertIs(do_brush(city, road, road), False)

    def test_sixty(self):
        road, other = ("W", 0, "SE" * 30), ("N", 0, "ES" * 30)
        self.assertEqual(common_parts(DOUBLED_60, road, other), tuple((k, "") for k in range(60)))
        self.assertEqual(brushes(DOUBLED_60, road, other)[:2], (((0, ""), "low"), ((1, ""), "high")))
        self.assertEqual(meetings(DOUBLED_60, road, ("N", 0, "SE" * 29 + "SS")), (((0, "SE" * 29 + "S"), "cross"),))
        self.assertEqual(meetings(BOW, ("N", 0, "EES"), ("W", 0, "ESE")), (((0, "E"), "high"), ((3, ""), "low")))


class Sums(unittest.TestCase):
    def test_passes_within(self):
        for city in MIDDLE:
            everyone, own = plain.all_roads(city), plain.all_stretches(city)
            for road in everyone[:40]:
                words = plain.parts_of_road(city, road)
                table = plain.turns(city, road)
                for stretch in own[:50]:
                    low, high = passes_within(city, road, stretch)
                    self.assertEqual(low, tuple(part for part in plain.over_pieces(city, stretch)
                                                if words.get(part) == "low"))
                    self.assertEqual(high, tuple(part for part in plain.under_pieces(city, stretch)
                                                 if words.get(part) == "high"))
                    self.assertEqual(sum_along(city, stretch, table), len(low) - len(high))

    def test_great_cities(self):
        figures = Figures(52)
        for city in (DOUBLED_60, rectangle(6, 10)):
            for _ in range(5):
                road = road_at(city, figures.below(how_many_roads(city)))
                other = road_at(city, figures.below(how_many_roads(city)))
                rows = passes(city, other)
                stretch = (rows[0][0], "".join(own[2] for own in rows[:-1]))
                self.assertIs(is_stretch(city, stretch), True)
                low, high = passes_within(city, road, stretch)
                self.assertEqual(sum_along(city, stretch, plain.turns(city, road)), len(low) - len(high))


class Counts(unittest.TestCase):
    def test_how_many_go(self):
        for city in MIDDLE:
            words = [plain.parts_of_road(city, road) for road in plain.all_roads(city)]
            for stretch in plain.all_stretches(city)[:60]:
                for word in ("low", "high"):
                    self.assertEqual(how_many_go(city, stretch, word),
                                     sum(1 for own in words if own.get(stretch) == word))

    def test_brushed_by(self):
        for city in MIDDLE:
            everyone = plain.all_roads(city)
            for road in everyone[::max(1, len(everyone) // 25)]:
                rows = [plain.brushing(city, road, other) for other in everyone]
                self.assertEqual(brushed_by(city, road), (sum(1 for row in rows if row), sum(map(len, rows))))

    def test_how_many_brushes(self):
        for city in LITTLE:
            everyone = plain.all_roads(city)
            self.assertEqual(how_many_brushes(city), sum(
                1 for road in everyone for other in everyone
                for _, word in plain.brushing(city, road, other) if word == "low"))

    def test_straight_ones_brush_nobody(self):
        for city in MIDDLE:
            for road in plain.all_roads(city):
                if plain.bends(city, road):
                    found = some_brushing(city, road)
                    self.assertIs(is_road(city, found), True)
                    self.assertIs(do_brush(city, road, found), True)
                    self.assertEqual(some_brushing(city, list(road)), found)
                else:
                    self.assertEqual(brushed_by(city, road), (0, 0))
                    with self.assertRaises(CanNot) as caught:
                        some_brushing(city, road)
                    self.assertEqual(vars(caught.exception), {})

    def test_edges(self):
        self.assertEqual(brushed_by(LONE, ("W", 0, "S")), (1, 1))
        self.assertEqual(some_brushing(LONE, ("W", 0, "S")), ("N", 0, "E"))
        self.assertEqual(how_many_brushes(LONE), 1)
        self.assertEqual(how_many_go(TWICE, (0, "S"), "low"), 1)
        with self.assertRaises(Unfit):
            how_many_go(SQUARE, (0, ""), "across")
        with self.assertRaises(Unfit):
            some_brushing(SQUARE, ("W", 0, "E"))


class Sixty(unittest.TestCase):
    def test_doubled_throughout(self):
        # On a line of doubled streets ROADS are sets of places; they go together if one lies in the other.
        figures = Figures(53)
        for _ in range(20):
            road = road_at(DOUBLED_60, figures.below(2 ** 61 - 2))
            own = places(road)
            count, has = len(own), [k in own for k in range(61)]
            brushed = 2 ** 61 - 2 ** count - 2 ** (61 - count) + 1
            pairs = sum(2 ** (61 - (n - k + 1)) for n in range(61) for k in range(n) if has[k] != has[n])
            self.assertEqual(brushed_by(DOUBLED_60, road), (brushed, pairs))
        self.assertEqual(how_many_brushes(DOUBLED_60), sum(
            2 ** (n - k - 1) * 4 ** (61 - (n - k + 1)) for n in range(61) for k in range(n)))
        self.assertEqual(how_many_go(DOUBLED_60, (10, "E" * 20), "low"), 2 ** 10 * 2 ** 29)

    def test_one_street(self):
        # On one street bent ROADS are the diagonals of a polygon of 63 corners; they brush if they cross.
        city = line("E" * 59)
        for number in range(0, how_many_roads(city), 37):
            road = road_at(city, number)
            last = road[1] + len(road[2]) - 1
            corners = (0 if road[0] == "W" else road[1] + 1, last + 3 if road[2][-1] == "E" else last + 2)
            within = corners[1] - corners[0] - 1
            self.assertEqual(brushed_by(city, road), (within * (61 - within),) * 2)

    def test_great_cities(self):
        figures = Figures(54)
        for city in made_cities(4, 60, 55) + [rectangle(6, 10), rectangle(2, 30)]:
            for _ in range(10):
                road = road_at(city, figures.below(how_many_roads(city)))
                self.assertIs(is_bent(city, road), True)
                self.assertIs(do_brush(city, road, some_brushing(city, road)), True)
                many, pairs = brushed_by(city, road)
                self.assertTrue(0 < many <= pairs)
                self.assertLess(many, how_many_roads(city))


if __name__ == "__main__":
    unittest.main()

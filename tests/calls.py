"""Each function of the package with a good call, the kind of each argument, and what is wrong for each kind.

A call is (function, arguments, late): arguments a list of (name, kind, value) in their order; late a dict of
values that are of the right kind, but lead to an error behind all Unfit().
"""

from neverbrush import bags, brushing, cities, floors, roads, signs, stretches
from tests.made import ALLEY, SQUARE

NUMBERS = (None, True, False, "1", "", (1,), [1], 1.0, {})
WAYS = (None, True, 0, "", "W", "N", "e", "s", "ES", "EE", ("E",), ["E"], {})
SIDES = (None, True, 0, "", "E", "S", "w", "n", "WN", ("W",), ["N"], {})
CITIES = (
    None, True, 5, "", "ab", (), [], {}, ((),), ((), ()), (((0,),),), (((0,),), ()), ((), ((0,),)),
    (((0,),), ((0,),), ((0,),)), ((0,), (0,)), (0, 0), ("0", "0"), (((0, 1),), ((1, 0),)),
    (((0, 1),), ((0,),)), (((0,),), ((0, 1),)), (((0, True),), ((0,), (1,))), (((0, 1),), ((0,), (True,))),
    (((1, 2),), ((1, 2),)), (((0, 2),), ((0, 2),)), (((1,), (0,)), ((0,), (1,))), (((0,), (1,)), ((1,), (0,))),
    (((0,), ()), ((0,),)), (((0,),), ((), (0,))), (((0, 0),), ((0, 0),)), (((0,), (0,)), ((0,), (0,))),
    ((("0",),), (("0",),)), (((0.0,),), ((0.0,),)), (((None,),), ((None,),)), (((-1, 0),), ((-1, 0),)),
    (((0,), None), ((0,), (1,))), (((0, 1), (1, 2)), ((0, 1, 2),)), ({0: 1}, {0: 1}), (((0,),), "0"),
    (((0, 2),), ((0,), (2,))), (((0, 1), (0, 1)), ((0, 1),)), (((1,),), ((1,),)),
)
ROADS = (
    None, True, 5, "", "W0SS", (), [], {}, ("W", 0), ("W", 0, "SS", ""), ("E", 0, "SS"), ("S", 0, "SS"),
    ("w", 0, "SS"), ("", 0, "SS"), (None, 0, "SS"), (True, 0, "SS"), (("W",), 0, "SS"), (["W"], 0, "SS"),
    ({}, 0, "SS"), ("WN", 0, "SS"), ("W", 1, "S"), ("N", 2, "S"), ("N", 3, "E"), ("W", 4, "S"), ("W", -1, "S"),
    ("W", -4, "SS"), ("W", 10 ** 30, "SS"), ("W", False, "SS"), ("W", None, "SS"), ("W", "0", "SS"),
    ("W", 0.0, "SS"), ("W", (0,), "SS"), ("W", 0, ""), ("W", 0, "S"), ("W", 0, "SE"), ("W", 0, "SEES"),
    ("W", 0, "SSS"), ("W", 0, "EEE"), ("W", 0, "ss"), ("W", 0, "SX"), ("W", 0, "XS"), ("W", 0, "S S"),
    ("W", 0, None), ("W", 0, 0), ("W", 0, ("S", "S")), ("W", 0, ["S", "S"]), ("W", 0, b"SS"),
)
STRETCHES = (
    None, True, 5, "", "0E", (), [], {}, (0,), (0, "", ""), (4, ""), (-1, ""), (-4, ""), (10 ** 30, ""),
    (True, ""), (False, ""), (None, ""), ("0", ""), (0.0, ""), ((0,), ""), (0, "EE"), (1, "E"), (3, "S"),
    (2, "S"), (0, "ESE"), (0, "X"), (0, "e"), (0, "E "), (0, None), (0, 0), (0, ("E",)), (0, ["E"]), ("", 0),
    (0, b"E"), ("W", 0),
)
TABLES = (
    None, True, 0, "", "0000", (), [], {}, (0, 0, 0), (0, 0, 0, 0, 0), (0, 0, 0, True), (False, 0, 0, 0),
    (0, 0, 0, None), (0, "1", 0, 0), (0, 0, 1.0, 0), ((0, 0, 0, 0),), ((0,), 0, 0, 0), (0, 0, 0, "0"),
)
BAGS = (
    None, True, 0, "", "bag", {}, ((),), (("W", 0, "SS"),), ("W", 0, "SS"), ((("W", 0, "SS"),),),
    ((("W", 0, "SS"), 1, 1),), ((("W", 0, "SS"), 0),), ((("W", 0, "SS"), -1),), ((("W", 0, "SS"), True),),
    ((("W", 0, "SS"), None),), ((("W", 0, "SS"), "1"),), ((("W", 0, "SS"), 1.0),), ((1, ("W", 0, "SS")),),
    ((("W", 0, "EE"), 1),), ((("N", 0, "SS"), 1),), ((("W", 0, "S"), 1),), ((("W", 9, "S"), 1),),
    ((("W", 2, "S"), 1), (("W", 0, "SS"), 1)), ((("W", 0, "SS"), 1), (("W", 0, "SS"), 1)),
    ((("W", 0, "SS"), 1), (("W", 0, "SS"), 2)), ((("N", 0, "EE"), 1), (("W", 0, "SS"), 1)),
    ((("N", 0, "ESS"), 1), (("W", 0, "SS"), 1)), ((("N", 0, "ESE"), 2), (("W", 0, "SES"), 5)),
    ((("W", 0, "SS"), 1), None), ((("W", 0, "EE"), 1), (("W", 0, "SS"), 1)),
)
WORDS = (None, True, 0, (), [], {}, ("E",), ["E"], "X", "e", "EX", "E S", " ", "ES\n", "1", "O", b"E")
FLOORS = (
    None, True, 0, "", "00", (), [], {}, ((),), (0, 0), ((0,),), ((0, 0, 0),), ((-1, 0),), ((0, -1),),
    ((True, 0),), ((0, False),), ((None, 0),), (("0", 0),), ((0, 1.0),), ((0, 1), (0, 0)), ((1, 0), (0, 0)),
    ((0, 0), (0, 0)), ((0, 0), None), ((0, 0), 1), (((0, 0),),),
)
COUNTS = NUMBERS + (0, -1, -10 ** 9)
LINKS = (
    None, True, 0, "", "01", {}, ((),), ((0,),), (0, 1), ((0, 1, 2),), ((1, 0),), ((1, 1),), ((-1, 0),),
    ((0, 4),), ((4, 5),), ((0, True),), ((False, 1),), ((0, None),), ((0, "1"),), ((0, 1.0),),
    ((1, 2), (0, 1)), ((0, 1), (0, 1)), ((0, 1), None), (((0, 1),),),
)
GOINGS = (None, True, 0, "", "Low", "across", "along", "cross", "lowhigh", ("low",), ["high"], {})

WRONG = {
    "number": NUMBERS, "way": WAYS, "side": SIDES, "city": CITIES, "road": ROADS, "stretch": STRETCHES,
    "table": TABLES, "bag": BAGS, "letters": WORDS, "floor": FLOORS, "count": COUNTS, "links": LINKS,
    "going": GOINGS,
}

TOWN = ("city", "city", SQUARE)
HERE = ("crossing", "number", 1)
FAR = {"crossing": 4}
LOW = ("road", "road", ("W", 0, "SES"))
HIGH = ("other", "road", ("N", 0, "ESE"))
ALONG = ("stretch", "stretch", (0, "ES"))
TABLE = ("table", "table", (2, -1, 0, 1))
BAG = ("bag", "bag", ((("N", 1, "E"), 5), (("N", 1, "SE"), 2), (("W", 0, "SS"), 3), (("W", 2, "S"), 4)))
OTHER_BAG = ("other", "bag", ((("N", 0, "EE"), 3), (("W", 2, "S"), 1)))
CELLS = ((0, 0), (0, 1), (0, 3), (1, 1), (1, 3))

CALLS = [
    (cities.how_many, [TOWN], {}),
    (cities.streets_of, [TOWN, HERE], FAR),
    (cities.next_one, [TOWN, HERE, ("way", "way", "S")], FAR),
    (cities.ahead_one, [TOWN, HERE, ("side", "side", "W")], FAR),
    (cities.beginnings, [TOWN], {}),
    (cities.ends, [TOWN], {}),
    (cities.links, [TOWN], {}),
    (cities.by_links, [("many", "count", 4), ("east", "links", ((0, 1), (1, 3))), ("south", "links", ((0, 2),))],
     {"east": ((0, 2), (1, 2)), "south": ((0, 1), (0, 2))}),
    (cities.reached, [TOWN, HERE], FAR),
    (cities.parts, [TOWN], {}),
    (floors.of_cells, [("cells", "floor", CELLS)], {}),
    (floors.of_points, [("points", "floor", CELLS)], {}),
    (floors.rectangle, [("high", "count", 2), ("wide", "count", 3)], {}),
    (floors.ring, [("high", "count", 3), ("wide", "count", 4)], {}),
    (floors.line, [("word", "letters", "EB0S")], {}),
    (floors.line_of, [("city", "city", ALLEY)], {"city": SQUARE}),
    (floors.points_of, [TOWN], {"city": (((0, 1),), ((0, 1),))}),
    (floors.are_points, [TOWN, ("points", "floor", ((0, 0), (0, 1), (1, 0), (1, 1)))], {}),
    (roads.is_bent, [TOWN, LOW], {}),
    (roads.passes, [TOWN, LOW], {}),
    (roads.turns, [TOWN, LOW], {}),
    (roads.road_of, [TOWN, ("table", "table", (0, 1, 0, -1))], {"table": (0, 0, 0, 0)}),
    (roads.behind, [TOWN, LOW], {}),
    (roads.roads, [TOWN], {}),
    (roads.straight_roads, [TOWN], {}),
    (roads.how_many_roads, [TOWN], {}),
    (roads.by_bends, [TOWN], {}),
    (roads.road_at, [TOWN, ("number", "number", 7)], {"number": 14}),
    (roads.road_number, [TOWN, LOW], {"road": ("W", 0, "EE")}),
    (roads.through, [TOWN, HERE], FAR),
    (roads.longest, [TOWN], {}),
    (stretches.crossings_of, [TOWN, ALONG], {}),
    (stretches.sum_along, [TOWN, ALONG, TABLE], {}),
    (stretches.stretches, [TOWN], {}),
    (stretches.how_many_stretches, [TOWN], {}),
    (stretches.how_many_with, [TOWN, HERE], FAR),
    (stretches.over_pieces, [TOWN, ALONG], {}),
    (stretches.under_pieces, [TOWN, ALONG], {}),
    (stretches.lies_over, [TOWN, ALONG, ("other", "stretch", (0, ""))], {}),
    (stretches.joined, [TOWN, ("stretch", "stretch", (0, "E")), ("way", "way", "S"),
                        ("other", "stretch", (3, ""))], {"other": (0, "")}),
    (stretches.parted, [TOWN, ALONG, ("number", "number", 1)], {"number": 2}),
    (stretches.goes, [TOWN, LOW, ("stretch", "stretch", (0, "S"))], {}),
    (stretches.low_passes, [TOWN, LOW], {}),
    (stretches.high_passes, [TOWN, LOW], {}),
    (brushing.common_parts, [TOWN, LOW, HIGH], {}),
    (brushing.meetings, [TOWN, LOW, HIGH], {}),
    (brushing.brushes, [TOWN, LOW, HIGH], {}),
    (brushing.do_brush, [TOWN, LOW, HIGH], {}),
    (brushing.crosses, [TOWN, LOW, HIGH], {}),
    (brushing.passes_within, [TOWN, LOW, ALONG], {}),
    (brushing.how_many_go, [TOWN, ALONG, ("word", "going", "low")], {}),
    (brushing.brushed_by, [TOWN, LOW], {}),
    (brushing.how_many_brushes, [TOWN], {}),
    (brushing.some_brushing, [TOWN, LOW], {"road": ("W", 0, "EE")}),
    (bags.bag, [TOWN, TABLE], {}),
    (bags.table_of, [TOWN, BAG], {}),
    (bags.lot_of, [TOWN, TABLE], {}),
    (bags.how_many_in, [TOWN, TABLE], {}),
    (bags.on_pieces, [TOWN, TABLE], {}),
    (bags.beginnings_of, [TOWN, TABLE], {}),
    (bags.row_on, [TOWN, ("table", "table", (0, 1, -1, 1)), ("crossing", "number", 3), ("way", "way", "S")], FAR),
    (bags.bag_of_sum, [TOWN, BAG, OTHER_BAG], {}),
    (bags.bag_of_less, [TOWN, BAG], {}),
    (bags.are_one_lot, [TOWN, TABLE, ("other", "table", (-2, 1, 0, -1))], {}),
    (bags.why_not_one, [TOWN, TABLE, ("other", "table", (-2, 1, 0, -1))], {"other": (0, 0, 0, 0)}),
]

# The last argument of each of these is a thing: a good one, and what tells False.
THINGS = [
    (cities.is_city, [], SQUARE),
    (roads.is_road, [TOWN], ("W", 0, "SES")),
    (stretches.is_stretch, [TOWN], (0, "ES")),
    (bags.is_bag, [TOWN, TABLE], ((("N", 1, "E"), 1), (("W", 0, "SS"), 2), (("W", 2, "ES"), 1))),
    (bags.is_some_bag, [TOWN], ((("N", 1, "E"), 5), (("N", 1, "SE"), 2), (("W", 0, "SS"), 3), (("W", 2, "S"), 4))),
    (bags.is_why_not_one, [TOWN, TABLE, ("other", "table", (-2, 1, 0, -1))], (("W", 0, "SS"), ("N", 0, "EE"))),
]

TEXTS = [
    (signs.words, {"text": "east -1 0 # a remark\n2 07-"}),
    (signs.text_of, {"words": [("row", 0), ("0", 0), ("plan", 2)]}),
    (signs.number_of, {"word": "-12"}),
    (signs.word_of, {"number": -7}),
]

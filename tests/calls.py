"""Each function of the package with a good call, the kind of each argument, and what is wrong for each kind.

A call is (function, arguments, late): arguments a list of (name, kind, value) in their order; late a dict of
values that are of the right kind, but lead to an error behind all Unfit().
"""

from neverbrush import bags, brushing, cities, climbs, closed, counts, exchange, floors, forms, lots, roads, seams
from neverbrush import signs, stretches, walks
from tests.made import ALLEY, DOUBLED_60, SQUARE, TWIN

NUMBERS = (None, True, False, "1", "", (1,), [1], 1.0, {})
WAYS = (None, True, 0, "", "W", "N", "e", "s", "ES", "EE", ("E",), ["E"], {})
SIDES = (None, True, 0, "", "E", "S", "w", "n", "WN", ("W",), ["N"], {})
CITIES = (
    None, True, 5, "", "ab", (), [], {}, ((),), ((), ()), (((0,),),), (((0,),), ()), ((), ((0,),)),
    (((0,),), ((0,),), ((0,),)), ((0,), (0,)), (0, 0), ("0", "0"), (((0, 1),), ((1, 0),)),
    (((0, 1),), ((0,),)), (((0,),), ((0, 1),)), (((0, True),), ((0,), (1,))), (((0, 1),), ((0,), (True,))),
    (((1, 2),), ((1, 2),)), (((0, 2),), ((0, 2),)), (((1,), (0,)), ((0,), (1,))), (((0,), (1,)), ((1,), (0,))),
    (((0,), ()), ((0,),)), (((0,),), ((), (0,))), (((0, 0),), ((0, 0),)), (((0,), (0,)), ((0,), (0,))),
    ((("0",),), (("0",),)), (((0.0,),), ((0.0,),)), (((None,),), ((None,),)), (((-1, 0),), ((-1, 0),)),
    (((0,), None), ((0,), (1,))), (((0, 1), (1, 2)), ((0, 1, 2),)), ({0: 1}, {0: 1}), (((0,),), "0"),
    (((0, 2),), ((0,), (2,))), (((0, 1), (0, 1)), ((0, 1),)), (((1,),), ((1,),)),
)
ROADS = (
    None, True, 5, "", "W0SS", (), [], {}, ("W", 0), ("W", 0, "SS", ""), ("E", 0, "SS"), ("S", 0, "SS"),
    ("w", 0, "SS"), ("", 0, "SS"), (None, 0, "SS"), (True, 0, "SS"), (("W",), 0, "SS"), (["W"], 0, "SS"),
    ({}, 0, "SS"), ("WN", 0, "SS"), ("W", 1, "S"), ("N", 2, "S"), ("N", 3, "E"), ("W", 4, "S"), ("W", -1, "S"),
    ("W", -4, "SS"), ("W", 10 ** 30, "SS"), ("W", False, "SS"), ("W", None, "SS"), ("W", "0", "SS"),
    ("W", 0.0, "SS"), ("W", (0,), "SS"), ("W", 0, ""), ("W", 0, "S"), ("W", 0, "SE"), ("W", 0, "SEES"),
    ("W", 0, "SSS"), ("W", 0, "EEE"), ("W", 0, "ss"), ("W", 0, "SX"), ("W", 0, "XS"), ("W", 0, "S S"),
    ("W", 0, None), ("W", 0, 0), ("W", 0, ("S", "S")), ("W", 0, ["S", "S"]), ("W", 0, b"SS"),
)
STRETCHES = (
    None, True, 5, "", "0E", (), [], {}, (0,), (0, "", ""), (4, ""), (-1, ""), (-4, ""), (10 ** 30, ""),
    (True, ""), (False, ""), (None, ""), ("0", ""), (0.0, ""), ((0,), ""), (0, "EE"), (1, "E"), (3, "S"),
    (2, "S"), (0, "ESE"), (0, "X"), (0, "e"), (0, "E "), (0, None), (0, 0), (0, ("E",)), (0, ["E"]), ("", 0),
    (0, b"E"), ("W", 0),
)
TABLES = (
    None, True, 0, "", "0000", (), [], {}, (0, 0, 0), (0, 0, 0, 0, 0), (0, 0, 0, True), (False, 0, 0, 0),
    (0, 0, 0, None), (0, "1", 0, 0), (0, 0, 1.0, 0), ((0, 0, 0, 0),), ((0,), 0, 0, 0), (0, 0, 0, "0"),
)
BAGS = (
    None, True, 0, "", "bag", {}, ((),), (("W", 0, "SS"),), ("W", 0, "SS"), ((("W", 0, "SS"),),),
    ((("W", 0, "SS"), 1, 1),), ((("W", 0, "SS"), 0),), ((("W", 0, "SS"), -1),), ((("W", 0, "SS"), True),),
    ((("W", 0, "SS"), None),), ((("W", 0, "SS"), "1"),), ((("W", 0, "SS"), 1.0),), ((1, ("W", 0, "SS")),),
    ((("W", 0, "EE"), 1),), ((("N", 0, "SS"), 1),), ((("W", 0, "S"), 1),), ((("W", 9, "S"), 1),),
    ((("W", 2, "S"), 1), (("W", 0, "SS"), 1)), ((("W", 0, "SS"), 1), (("W", 0, "SS"), 1)),
    ((("W", 0, "SS"), 1), (("W", 0, "SS"), 2)), ((("N", 0, "EE"), 1), (("W", 0, "SS"), 1)),
    ((("N", 0, "ESS"), 1), (("W", 0, "SS"), 1)), ((("N", 0, "ESE"), 2), (("W", 0, "SES"), 5)),
    ((("W", 0, "SS"), 1), None), ((("W", 0, "EE"), 1), (("W", 0, "SS"), 1)),
)
WORDS = (None, True, 0, (), [], {}, ("E",), ["E"], "X", "e", "EX", "E S", " ", "ES\n", "1", "O", b"E")
FLOORS = (
    None, True, 0, "", "00", (), [], {}, ((),), (0, 0), ((0,),), ((0, 0, 0),), ((-1, 0),), ((0, -1),),
    ((True, 0),), ((0, False),), ((None, 0),), (("0", 0),), ((0, 1.0),), ((0, 1), (0, 0)), ((1, 0), (0, 0)),
    ((0, 0), (0, 0)), ((0, 0), None), ((0, 0), 1), (((0, 0),),),
)
COUNTS = NUMBERS + (0, -1, -10 ** 9)
LINKS = (
    None, True, 0, "", "01", {}, ((),), ((0,),), (0, 1), ((0, 1, 2),), ((1, 0),), ((1, 1),), ((-1, 0),),
    ((0, 4),), ((4, 5),), ((0, True),), ((False, 1),), ((0, None),), ((0, "1"),), ((0, 1.0),),
    ((1, 2), (0, 1)), ((0, 1), (0, 1)), ((0, 1), None), (((0, 1),),),
)
ROAD_SETS = (
    None, True, 5, "", "road", {}, ((),), ("W", 0, "SS"), (("W", 0, "EE"),), (("W", 0, "S"),), (("W", 9, "S"),),
    ((("W", 0, "SS"), 1),), (("W", 2, "S"), ("W", 0, "SS")), (("W", 0, "SS"), ("W", 0, "SS")),
    (("W", 0, "SS"), None), (("W", 0, "SS"), 1), (("W", 0, "EE"), ("W", 0, "SS")), (("W", True, "SS"),),
    (("N", 0, "SS"), ("W", 0, "SS")), ((("W", 0, "SS"),),), (("W", 0, ("S", "S")),),
)
LOTS = ROAD_SETS + (
    (("N", 0, "EE"), ("W", 0, "SS")), (("N", 0, "ESS"), ("W", 0, "SS")), (("N", 0, "ESE"), ("W", 0, "SES")),
    (("N", 1, "E"), ("W", 0, "SS"), ("W", 2, "ES"), ("W", 2, "S"), ("W", 2, "S")),
    (("N", 0, "EE"), ("N", 0, "SEE"), ("N", 1, "E"), ("N", 1, "SE"), ("W", 0, "SES")),
)
FULLS = LOTS + (
    (), (("W", 0, "SS"),), (("N", 1, "E"), ("W", 0, "SS"), ("W", 2, "ES")),
    (("W", 0, "SS"), ("W", 2, "ES"), ("W", 2, "S"), ("N", 1, "E")),
    (("N", 0, "EE"), ("W", 0, "SS"), ("W", 2, "ES"), ("W", 2, "S")),
)
WALLS = LOTS + (
    (), (("W", 0, "SS"),), (("W", 0, "SS"), ("W", 2, "ES")),
    (("N", 1, "E"), ("W", 0, "SS"), ("W", 2, "ES"), ("W", 2, "S")),
)
MOMENTS = (
    None, True, 0, "", "01", (), [], {}, (1,), (1, 2, 3), (0, 0), (1, 0), (-1, 2), (3, 2), (0, -1), (1, -2),
    (True, 2), (1, True), (False, 2), (None, 2), (1, None), ("1", "2"), (0.0, 1), (0, 1.0), ((0, 1),), ((0,), (1,)),
)
STRETCH_ROWS = (
    None, True, 0, "", "0E", {}, ((),), (0, ""), (0, "E"), ((0, "EE"),), ((4, ""),), ((-1, ""),), ((True, ""),),
    ((0, None),), ((0, ("E",)),), ((0, ""), None), ((0, ""), 1), (((0, ""),),), ((0,),), ((0, "", ""),),
    ((0, ""), (1, "E")), (("0", ""),), ((0.0, ""),),
)
STRETCH_SETS = STRETCH_ROWS + (
    ((1, ""), (0, "")), ((0, "E"), (0, "")), ((0, ""), (0, "")), ((3, ""), (0, ""), (1, "")),
)
FIGURES = (
    None, True, 5, "", "12", {}, (10,), (-1,), (1, 10), (True,), (1, False), (None,), ("1",), (1.0,), ((1,),), ([],),
    (0,) * 31, (1, 2, 3, -1), (10 ** 30,),
)
WIDES = NUMBERS + (0, -1, 31, 10 ** 9)
WIDES_BY_SEAMS = WIDES + (6, 30)
GOINGS = (None, True, 0, "", "Low", "across", "along", "cross", "lowhigh", ("low",), ["high"], {})

WRONG = {
    "number": NUMBERS, "way": WAYS, "side": SIDES, "city": CITIES, "road": ROADS, "stretch": STRETCHES,
    "table": TABLES, "bag": BAGS, "letters": WORDS, "floor": FLOORS, "count": COUNTS, "links": LINKS,
    "going": GOINGS, "roads": ROAD_SETS, "lot": LOTS, "full": FULLS, "wall": WALLS, "moment": MOMENTS,
    "stretches": STRETCH_SETS, "climb": STRETCH_ROWS, "figures": FIGURES, "wide": WIDES, "less wide": WIDES_BY_SEAMS,
}

TOWN = ("city", "city", SQUARE)
HERE = ("crossing", "number", 1)
FAR = {"crossing": 4}
LOW = ("road", "road", ("W", 0, "SES"))
HIGH = ("other", "road", ("N", 0, "ESE"))
ALONG = ("stretch", "stretch", (0, "ES"))
TABLE = ("table", "table", (2, -1, 0, 1))
BAG = ("bag", "bag", ((("N", 1, "E"), 5), (("N", 1, "SE"), 2), (("W", 0, "SS"), 3), (("W", 2, "S"), 4)))
OTHER_BAG = ("other", "bag", ((("N", 0, "EE"), 3), (("W", 2, "S"), 1)))
OTHER_TABLE = ("other", "table", (-1, 1, 3, 1))
FOUR = (("N", 1, "E"), ("W", 0, "SS"), ("W", 2, "ES"), ("W", 2, "S"))
NEAR = (("N", 1, "E"), ("N", 1, "SE"), ("W", 0, "SS"), ("W", 2, "S"))
LEAST = (("W", 0, "ESS"), ("W", 0, "SS"), ("W", 2, "ES"), ("W", 2, "S"))
MOST = (("N", 0, "EE"), ("N", 0, "SEE"), ("N", 1, "E"), ("N", 1, "SE"))
LOT = ("lot", "lot", (("N", 0, "SES"), ("W", 0, "ESS")))
FULL = ("lot", "full", FOUR)
OTHER_FULL = ("other", "full", MOST)
HELD = ("bag", "bag", ((("N", 1, "SE"), 1), (("W", 0, "SS"), 1)))
APART = ("stretches", "stretches", ((0, ""), (3, "")))
OVER = ((0, ""), (0, "S"))
TOO_MANY = {"city": DOUBLED_60}
CELLS = ((0, 0), (0, 1), (0, 3), (1, 1), (1, 3))

CALLS = [
    (cities.how_many, [TOWN], {}),
    (cities.streets_of, [TOWN, HERE], FAR),
    (cities.next_one, [TOWN, HERE, ("way", "way", "S")], FAR),
    (cities.ahead_one, [TOWN, HERE, ("side", "side", "W")], FAR),
    (cities.beginnings, [TOWN], {}),
    (cities.ends, [TOWN], {}),
    (cities.links, [TOWN], {}),
    (cities.by_links, [("many", "count", 4), ("east", "links", ((0, 1), (1, 3))), ("south", "links", ((0, 2),))],
     {"east": ((0, 2), (1, 2)), "south": ((0, 1), (0, 2))}),
    (cities.reached, [TOWN, HERE], FAR),
    (cities.parts, [TOWN], {}),
    (floors.of_cells, [("cells", "floor", CELLS)], {}),
    (floors.of_points, [("points", "floor", CELLS)], {}),
    (floors.rectangle, [("high", "count", 2), ("wide", "count", 3)], {}),
    (floors.ring, [("high", "count", 3), ("wide", "count", 4)], {}),
    (floors.line, [("word", "letters", "EB0S")], {}),
    (floors.line_of, [("city", "city", ALLEY)], {"city": SQUARE}),
    (floors.points_of, [TOWN], {"city": (((0, 1),), ((0, 1),))}),
    (floors.are_points, [TOWN, ("points", "floor", ((0, 0), (0, 1), (1, 0), (1, 1)))], {}),
    (roads.is_bent, [TOWN, LOW], {}),
    (roads.passes, [TOWN, LOW], {}),
    (roads.turns, [TOWN, LOW], {}),
    (roads.road_of, [TOWN, ("table", "table", (0, 1, 0, -1))], {"table": (0, 0, 0, 0)}),
    (roads.behind, [TOWN, LOW], {}),
    (roads.roads, [TOWN], {}),
    (roads.straight_roads, [TOWN], {}),
    (roads.how_many_roads, [TOWN], {}),
    (roads.by_bends, [TOWN], {}),
    (roads.road_at, [TOWN, ("number", "number", 7)], {"number": 14}),
    (roads.road_number, [TOWN, LOW], {"road": ("W", 0, "EE")}),
    (roads.through, [TOWN, HERE], FAR),
    (roads.longest, [TOWN], {}),
    (stretches.crossings_of, [TOWN, ALONG], {}),
    (stretches.sum_along, [TOWN, ALONG, TABLE], {}),
    (stretches.stretches, [TOWN], {}),
    (stretches.how_many_stretches, [TOWN], {}),
    (stretches.how_many_with, [TOWN, HERE], FAR),
    (stretches.over_pieces, [TOWN, ALONG], {}),
    (stretches.under_pieces, [TOWN, ALONG], {}),
    (stretches.lies_over, [TOWN, ALONG, ("other", "stretch", (0, ""))], {}),
    (stretches.joined, [TOWN, ("stretch", "stretch", (0, "E")), ("way", "way", "S"),
                        ("other", "stretch", (3, ""))], {"other": (0, "")}),
    (stretches.parted, [TOWN, ALONG, ("number", "number", 1)], {"number": 2}),
    (stretches.goes, [TOWN, LOW, ("stretch", "stretch", (0, "S"))], {}),
    (stretches.low_passes, [TOWN, LOW], {}),
    (stretches.high_passes, [TOWN, LOW], {}),
    (brushing.common_parts, [TOWN, LOW, HIGH], {}),
    (brushing.meetings, [TOWN, LOW, HIGH], {}),
    (brushing.brushes, [TOWN, LOW, HIGH], {}),
    (brushing.do_brush, [TOWN, LOW, HIGH], {}),
    (brushing.crosses, [TOWN, LOW, HIGH], {}),
    (brushing.passes_within, [TOWN, LOW, ALONG], {}),
    (brushing.how_many_go, [TOWN, ALONG, ("word", "going", "low")], {}),
    (brushing.brushed_by, [TOWN, LOW], {}),
    (brushing.how_many_brushes, [TOWN], {}),
    (brushing.some_brushing, [TOWN, LOW], {"road": ("W", 0, "EE")}),
    (bags.bag, [TOWN, TABLE], {}),
    (bags.table_of, [TOWN, BAG], {}),
    (bags.lot_of, [TOWN, TABLE], {}),
    (bags.how_many_in, [TOWN, TABLE], {}),
    (bags.on_pieces, [TOWN, TABLE], {}),
    (bags.beginnings_of, [TOWN, TABLE], {}),
    (bags.row_on, [TOWN, ("table", "table", (0, 1, -1, 1)), ("crossing", "number", 3), ("way", "way", "S")], FAR),
    (bags.bag_of_sum, [TOWN, BAG, OTHER_BAG], {}),
    (bags.bag_of_less, [TOWN, BAG], {}),
    (bags.are_one_lot, [TOWN, TABLE, ("other", "table", (-2, 1, 0, -1))], {}),
    (bags.why_not_one, [TOWN, TABLE, ("other", "table", (-2, 1, 0, -1))], {"other": (0, 0, 0, 0)}),
    (lots.brushing_pair, [TOWN, ("roads", "roads", (("N", 0, "ESE"), ("W", 0, "ESS"), ("W", 0, "SES")))],
     {"roads": LEAST}),
    (lots.barred_by, [TOWN, ("lot", "lot", LEAST), ("road", "road", ("N", 0, "ESS"))], {}),
    (lots.put_to, [TOWN, LOT, ("road", "road", ("W", 0, "SEE"))], {"road": ("W", 0, "EE")}),
    (lots.goes_with, [TOWN, LOT], {}),
    (lots.least_lot, [TOWN], {}),
    (lots.greatest_lot, [TOWN], {}),
    (lots.finished, [TOWN, LOT, ("word", "going", "high")], {}),
    (lots.full_lots, [TOWN], TOO_MANY),
    (lots.how_many_full, [TOWN], TOO_MANY),
    (lots.lots_by_size, [TOWN], TOO_MANY),
    (forms.forms, [TOWN, FULL], {}),
    (forms.form_of, [TOWN, FULL, ("road", "road", FOUR[1])], {"road": ("W", 0, "EE")}),
    (forms.counts_in, [TOWN, FULL, TABLE], {}),
    (forms.told_back, [TOWN, FULL, ("counts", "table", (5, 3, -2, 4))], {}),
    (forms.stands, [TOWN, FULL, TABLE], {}),
    (forms.why_out, [TOWN, FULL, ("table", "table", (3, -5, 4, -2))], {"table": (0, 0, 0, 0)}),
    (forms.inner_table, [TOWN, FULL], {}),
    (forms.low_roads, [TOWN, FULL], {}),
    (forms.high_roads, [TOWN, FULL], {}),
    (forms.home, [TOWN, TABLE], {}),
    (exchange.newcomer, [TOWN, FULL, ("road", "road", FOUR[2])], {"road": ("W", 0, "EE")}),
    (exchange.exchanged, [TOWN, FULL, ("road", "road", FOUR[2])], {"road": ("W", 0, "ESS")}),
    (exchange.exchange_of, [TOWN, FULL, ("road", "road", FOUR[0])], {"road": ("N", 0, "EE")}),
    (exchange.exchanges, [TOWN, FULL], {}),
    (exchange.exchange_to, [TOWN, ("lot", "full", LEAST), ("other", "full", FOUR)], {"other": MOST}),
    (exchange.resolved, [TOWN, ("road", "road", ("W", 2, "ES")), ("other", "road", ("W", 0, "ESE")),
                         ("stretch", "stretch", (3, ""))], {"stretch": (1, "")}),
    (exchange.wall_bag, [TOWN, FULL, ("road", "road", FOUR[3])], {"road": ("W", 0, "ESS")}),
    (exchange.sides, [TOWN, ("lot", "wall", FOUR[1:])], {}),
    (walks.moments, [TOWN, TABLE, OTHER_TABLE], {}),
    (walks.lots_between, [TOWN, TABLE, OTHER_TABLE], {}),
    (walks.bag_then, [TOWN, TABLE, OTHER_TABLE, ("moment", "moment", (2, 4))], {}),
    (walks.put, [TOWN, HELD, ("crossing", "number", 3), ("number", "number", 2)], FAR),
    (walks.gone_and_come, [TOWN, HELD, ("crossing", "number", 3), ("number", "number", 2)], FAR),
    (walks.first_put, [TOWN, HELD, ("crossing", "number", 3), ("number", "number", 2)], FAR),
    (walks.how_far, [TOWN, FULL, OTHER_FULL], {}),
    (walks.exchanges_to, [TOWN, FULL, OTHER_FULL], {}),
    (walks.by_far, [TOWN, FULL], {}),
    (closed.under, [TOWN, FULL], {}),
    (closed.above, [TOWN, FULL], {}),
    (closed.is_under, [TOWN, FULL, ALONG], {}),
    (closed.is_above, [TOWN, FULL, ALONG], {}),
    (closed.why_not_under, [TOWN, FULL, ("stretch", "stretch", (2, "E"))], {"stretch": (1, "")}),
    (closed.why_not_above, [TOWN, FULL, ("stretch", "stretch", (0, "E"))], {"stretch": (2, "E")}),
    (closed.parting, [TOWN, FULL, ALONG], {}),
    (closed.why_not_closed, [TOWN, ("stretches", "stretches", ((0, "ES"),))], {"stretches": ()}),
    (closed.closure, [TOWN, ("stretches", "stretches", ((0, "ES"), (2, "")))], {}),
    (closed.is_in_closure, [TOWN, APART, ALONG], {}),
    (closed.how_joined, [TOWN, ("stretches", "stretches", ((0, "ES"), (2, ""))), ("stretch", "stretch", (0, "SE"))],
     {"stretch": (1, "")}),
    (closed.lot_of_closed, [TOWN, APART], {"stretches": ((0, "E"),)}),
    (closed.closed_sets, [TOWN], TOO_MANY),
    (seams.seams, [TOWN, FULL], {}),
    (seams.rises, [TOWN, FULL], {}),
    (seams.unfit_pair, [TOWN, ("stretches", "stretches", ((0, "ES"), (0, "SE"), (3, "")))], {"stretches": ()}),
    (seams.why_over, [TOWN, ALONG, ("other", "stretch", (0, "SE"))], {}),
    (seams.may_join, [TOWN, APART], {"stretches": OVER}),
    (seams.lot_of_seams, [TOWN, APART], {"stretches": OVER}),
    (seams.lot_of_rises, [TOWN, APART], {"stretches": OVER}),
    (seams.sent_on, [TOWN, FULL], {}),
    (seams.sent_back, [TOWN, FULL], {}),
    (seams.ring_of, [TOWN, FULL], {}),
    (seams.times_sent, [TOWN, ("lot", "full", LEAST), ("other", "full", MOST)], {"other": FOUR}),
    (seams.fitting_sets, [TOWN], TOO_MANY),
    (climbs.led_up, [TOWN, FULL, ("stretch", "stretch", (0, ""))], {"stretch": (1, "")}),
    (climbs.led_down, [TOWN, FULL, ("stretch", "stretch", (1, ""))], {"stretch": (0, "")}),
    (climbs.climbed, [TOWN, ("lot", "full", LEAST), ("climb", "climb", ((1, ""), (0, "")))],
     {"climb": ((1, ""), (1, ""))}),
    (climbs.is_below, [TOWN, FULL, OTHER_FULL], {}),
    (climbs.why_not_below, [TOWN, FULL, ("other", "full", LEAST)], {"other": FOUR}),
    (climbs.climb, [TOWN, FULL, OTHER_FULL], {"other": LEAST}),
    (climbs.meet, [TOWN, FULL, OTHER_FULL], {}),
    (climbs.join, [TOWN, FULL, ("other", "full", LEAST)], {}),
    (climbs.over_ring, [("city", "city", TWIN)], {"city": SQUARE}),
    (climbs.climb_lengths, [TOWN, FULL, OTHER_FULL], {"other": LEAST}),
    (climbs.longest_climb, [TOWN], TOO_MANY),
    (counts.by_seams, [TOWN], TOO_MANY),
    (counts.roads_by_lots, [TOWN], TOO_MANY),
    (counts.seams_by_lots, [TOWN], TOO_MANY),
    (counts.numbered_lot, [TOWN, ("number", "number", 7)], {"number": 42}),
    (counts.lot_number, [TOWN, FULL], {}),
    (counts.drawn, [TOWN, ("figures", "figures", (5, 3))], {}),
    (counts.rectangle_lots, [("high", "wide", 2), ("wide", "wide", 30)], {}),
    (counts.rectangle_seams, [("high", "less wide", 2), ("wide", "less wide", 5)], {}),
]

# The last argument of each of these is a thing: a good one, and what tells False.
THINGS = [
    (cities.is_city, [], SQUARE),
    (roads.is_road, [TOWN], ("W", 0, "SES")),
    (stretches.is_stretch, [TOWN], (0, "ES")),
    (bags.is_bag, [TOWN, TABLE], ((("N", 1, "E"), 1), (("W", 0, "SS"), 2), (("W", 2, "ES"), 1))),
    (bags.is_some_bag, [TOWN], ((("N", 1, "E"), 5), (("N", 1, "SE"), 2), (("W", 0, "SS"), 3), (("W", 2, "S"), 4))),
    (bags.is_why_not_one, [TOWN, TABLE, ("other", "table", (-2, 1, 0, -1))], (("W", 0, "SS"), ("N", 0, "EE"))),
    (lots.is_lot, [TOWN], LOT[2]),
    (lots.is_full, [TOWN], FOUR),
    (forms.is_forms, [TOWN, FULL], (((1, ""), -1), ((0, ""), 1), ((3, ""), 1), ((2, ""), 1))),
    (exchange.is_exchange, [TOWN, ("lot", "full", LEAST)], (("W", 2, "ES"), ("W", 0, "ESE"), (3, ""))),
    (exchange.is_wall, [TOWN], FOUR[1:]),
    (walks.is_row, [TOWN, ("lot", "full", LEAST), ("other", "full", FOUR)],
     ((("W", 0, "ESS"), ("N", 1, "E"), (1, "")),)),
    (closed.is_closed, [TOWN], ((0, ""), (3, ""))),
    (seams.is_fitting, [TOWN], ((0, ""), (3, ""))),
    (climbs.is_why_not_below, [TOWN, FULL, ("other", "full", LEAST)], (1, "")),
    (climbs.is_climb, [TOWN, ("lot", "full", LEAST), OTHER_FULL], ((1, ""), (0, ""), (3, ""), (2, ""))),
    (climbs.is_over_ring, [("city", "city", TWIN)], ((0, ""), (0, "S"), (0, "E"))),
]

TEXTS = [
    (signs.words, {"text": "east -1 0 # a remark\n2 07-"}),
    (signs.text_of, {"words": [("row", 0), ("0", 0), ("plan", 2)]}),
    (signs.number_of, {"word": "-12"}),
    (signs.word_of, {"number": -7}),
]

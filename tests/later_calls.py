"""What tests.calls holds, for lines, cuts, solid, told, moved, texts, judge."""

from neverbrush import cuts, judge, lines, moved, solid, texts, told
from tests import plain
from tests.calls import ALONG, APART, BAG, FAR, FOUR, FULL, FULLS, HERE, LEAST, LOT, LOW, MOST, OVER, ROADS, TABLE, TOWN
from tests.made import ALLEY, LONE, SQUARE, TWICE

DOUBLED = ((tuple(range(4)),), (tuple(range(4)),))
STREET = ((tuple(range(4)),), ((0,), (1,), (2,), (3,)))


def wrong_roads(city, kept=()):
    """What is no ROAD of city, and of its ROADS those kept."""
    good = [road for road in plain.all_roads(city) if road not in kept]
    return tuple(own for own in ROADS if own not in good) + tuple(kept)


PLACES = (
    None, True, 0, "", "01", {}, ((),), (5,), (-1,), (0, 5), (-1, 0), (10 ** 30,), (True,), (0, True), (False,), (None,),
    ("1",), (1.0,), (1, 0), (1, 1), ((0,),), (0, (1,)), (0, 1, 2, 3, 4, 5),
)
ORDERINGS = (
    None, True, 0, "", "01234", (), [], {}, (0, 1, 2, 3), (0, 1, 2, 3, 4, 5), (0, 1, 2, 3, 3), (1, 2, 3, 4, 5),
    (-1, 0, 1, 2, 3), (False, 1, 2, 3, 4), (0, True, 2, 3, 4), (0, 1, 2, 3, None), ("0", 1, 2, 3, 4), (0, 1, 2, 3, 4.0),
    ((0, 1, 2, 3, 4),), (0, 1, 2, 3, (4,)),
)
DIAGONALS = (
    None, True, 0, "", "02", (), [], {}, (0,), (0, 2, 4), (0, 1), (0, 6), (5, 6), (3, 4), (2, 0), (2, 2), (-1, 3), (0, 7),
    (1, 7), (3, 8), (True, 3), (False, 2), (None, 2), ("0", "2"), (0.0, 2), ((0, 2),), ((0,), (2,)), (-2, 0),
)
FAN = ((0, 1, 2), (0, 2, 3), (0, 3, 4), (0, 4, 5), (0, 5, 6))
TRIANGLES = (
    None, True, 0, "", "012", (), [], {}, FAN[:4], FAN[1:], FAN + ((1, 2, 3),), FAN + FAN[:1], FAN[::-1],
    FAN[:4] + ((0, 4, 6),), FAN[:4] + ((0, 5, 7),), FAN[:4] + ((1, 2, 3),), FAN[:4] + FAN[3:4], FAN[:4] + (None,),
    FAN[:4] + ((0, 5),), FAN[:4] + ((0, 5, 6, 7),), FAN[:4] + ((0, 6, 5),), FAN[:4] + ((5, 6, 0),), FAN[:4] + (5,),
    FAN[:4] + ((0, 5, "6"),), ((False, 1, 2),) + FAN[1:], ((0, True, 2),) + FAN[1:], ((-1, 0, 1),) + FAN[1:],
    ((0, 1, 2), (0, 2, 4), (0, 4, 6), (2, 3, 4), (2, 4, 6)), ((0, 1, 2), (0, 1, 3), (0, 2, 3), (0, 3, 4), (0, 4, 5)),
)
CUTS = (None, True, 0, 1, "", "W", "N", "e", "s", "ES", "E0", "00", "B", ("0",), ["E"], {})
MOVES = (None, True, 0, "", "Sides", "side", "E", "W", "sidesabout", "turned", ("sides",), ["about"], {})
CROSSINGS = (
    None, True, 0, "", "01", (), [], {}, ((),), (True,), (0, True), (False,), (None,), ("0",), (0.0,), (1, 0), (0, 0),
    (0, 2, 1), ((0,),), (0, (1,)), (5, 4), (-1, -2),
)
RENAMINGS = (
    None, True, 0, "", "0123", (), [], {}, (0, 1, 2), (0, 1, 2, 3, 4), (1, 0, 2, 3), (0, 1, 3, 2), (3, 2, 1, 0),
    (0, 1, 1, 3), (0, 0, 0, 0), (1, 2, 3, 4), (-1, 0, 1, 2), (False, 1, 2, 3), (0, True, 2, 3), (0, 1, 2, None),
    ("0", 1, 2, 3), (0.0, 1, 2, 3), ((0, 1, 2, 3),), (0, 1, 2, (3,)),
)
EACH_ONCE = (
    None, True, 0, "", "01", {}, ((),), (1,), (0, 0), (0, 2), (-1, 0), (1, 2), (True,), (False,), (0, True), (None,),
    ("0",), (0.0,), ((0,),), (0, 1, 3), (10 ** 30,),
)
SHEETS = (
    None, True, 5, "", "east", (), [], {}, (SQUARE,), (SQUARE, ()), (SQUARE, (), (), ()), ((), (), ()), SQUARE,
    (SQUARE, None, ()), (SQUARE, (), None), (SQUARE, "", ()), (SQUARE, (), ""), (SQUARE, (1,), ()), (SQUARE, (), (1,)),
    (SQUARE, (0, 0, 0, 0), ()), (SQUARE, ((0, 0, 0),), ()), (SQUARE, ((0, 0, 0, True),), ()),
    (SQUARE, ((0, 0, 0, 0), ()), ()), (SQUARE, (), (("W", 0, "SS"),)), (SQUARE, (), ((("W", 0, "EE"),),)),
    (SQUARE, (), ((("W", 2, "S"), ("W", 0, "SS")),)), (SQUARE, (), ((("N", 0, "EE"), ("W", 0, "SS")),)),
    (SQUARE, (), ((), ((),))), (SQUARE, (), ((("W", False, "SS"),),)), ((((0,),), ((1,),)), (), ()), (LONE, ((0, 0),), ()),
)
CLAIMS = (
    None, True, 5, "", "full", (), [], {}, ("full",), ("full", SQUARE), ("full", SQUARE, FOUR, FOUR), ("Full", SQUARE, FOUR),
    (("full",), SQUARE, FOUR), (None, SQUARE, FOUR), (SQUARE, "full", FOUR), ("full", LONE, FOUR), ("full", (), FOUR),
    ("full", SQUARE, FOUR[::-1]), ("full", SQUARE, (("W", 0, "EE"),)), ("full", SQUARE, (("W", 0, True),)),
    ("full", SQUARE, (("N", 0, "EE"), ("W", 0, "SS"))), ("in", SQUARE, FOUR), ("in", SQUARE, FOUR[1:], (0, 0, 0, 0)),
    ("in", SQUARE, FOUR, (0, 0, 0)), ("in", SQUARE, FOUR, (0, 0, 0, True)), ("in", SQUARE, (0, 0, 0, 0), FOUR),
    ("in", SQUARE, FOUR, (0, 0, 0, 0), 1), ("exchange", SQUARE, FOUR, FOUR[0]),
    ("exchange", SQUARE, FOUR[1:], FOUR[1], FOUR[2]), ("exchange", SQUARE, FOUR, ("N", 0, "EE"), FOUR[0]),
    ("exchange", SQUARE, FOUR, FOUR[0], ("W", 0, "EE")), ("exchange", SQUARE, FOUR, ("W", 0, "EE"), FOUR[0]),
    ("exchange", SQUARE, FOUR, FOUR[0], ("W", 1, "S")), ("exchange", SQUARE, FOUR, FOUR[0], None),
    ("exchange", SQUARE, None, None, None), ("below", SQUARE, FOUR), ("below", SQUARE, FOUR[1:], FOUR),
    ("below", SQUARE, FOUR, ()), ("below", SQUARE, FOUR, FOUR, FOUR), ("fits", SQUARE), ("fits", SQUARE, ((3, ""), (0, ""))),
    ("fits", SQUARE, ((0, ""), (0, ""))), ("fits", SQUARE, ((4, ""),)), ("fits", SQUARE, ((True, ""),)), ("fits", SQUARE, (), ()),
    ("closed", SQUARE, (0, "")), ("closed", SQUARE, ((0, "EE"),)), ("closed", SQUARE, None), ("closed", (((1,),), ((1,),)), ()),
    ("open", SQUARE, ()), ("", SQUARE, ()), ("fit", SQUARE, ()), ("closed ", SQUARE, ()),
    (("full", SQUARE, FOUR),),
)

# What is no row of CLAIMS: no row, or a row with a wrong one ahead of, or behind, a good one.
WRONG_CLAIMS = (None, True, 5, "full", {}, ("full", SQUARE, FOUR)) + tuple(
    row for own in CLAIMS for row in ((own,), (("full", SQUARE, ()), own), (own, ("full", SQUARE, FOUR))))
STRAIGHT = tuple(road for road in plain.all_roads(STREET) if not plain.bends(STREET, road))

WRONG = {
    "places": PLACES, "ordering": ORDERINGS, "diagonal": DIAGONALS, "triangles": TRIANGLES, "cut": CUTS, "move": MOVES,
    "crossings": CROSSINGS, "renaming": RENAMINGS, "each once": EACH_ONCE, "sheet": SHEETS, "claim": CLAIMS,
    "claims": WRONG_CLAIMS, "doubled road": wrong_roads(DOUBLED), "street road": wrong_roads(STREET, STRAIGHT),
    "road or none": tuple(own for own in ROADS if own is not None),
    "doubled full": FULLS, "street full": FULLS,
}
WORD = ("word", "letters", "BBB")
MANY = ("many", "count", 4)
DOUBLED_LOT = ("lot", "doubled full", lines.lot_of_ordering("BBB", (3, 0, 4, 1, 2)))
STREET_LOT = ("lot", "street full", lines.lot_of_ordering("EEE", (3, 0, 4, 1, 2)))
ORDERING = ("ordering", "ordering", (1, 4, 2, 0, 3))
OTHER_ORDERING = ("other", "ordering", (1, 4, 2, 3, 0))
STRUCK = ("way", "cut", "0")
PARTED = ("way", "cut", "S")
LEFT = (("W", 0, "SS"), ("W", 1, "ES"), ("W", 1, "S"))
BESIDE = cuts.beside(SQUARE, TWICE)
BOTH = cuts.lot_of_both(SQUARE, TWICE, FOUR, (("N", 0, "EE"), ("N", 0, "ES")))
PRICES = ("prices", "table", (1, -2, 0, 3))
FULL_CLAIM = ("full", SQUARE, FOUR)
SOME_CLAIM = ("full", SQUARE, FOUR[1:])
IN = ("in", SQUARE, FOUR, TABLE[2])
OUT = ("in", SQUARE, FOUR, (3, -5, 4, -2))
ASTRAY = ("exchange", SQUARE, FOUR, FOUR[1], ("N", 0, "SEE"))
EXCHANGED = ("exchange", SQUARE, FOUR, FOUR[1], ("N", 0, "EE"))
UNFITTING = ("fits", SQUARE, OVER)
FITTING = ("fits", SQUARE, APART[2])
UNCLOSED = ("closed", SQUARE, ((1, "S"),))
CLOSED = ("closed", SQUARE, APART[2])
BELOW = ("below", SQUARE, FOUR, MOST)
NOT_BELOW = ("below", SQUARE, FOUR, LEAST)
SHEET = (SQUARE, (TABLE[2], (0, 0, 0, 0)), ((), FOUR, LOT[2]))
ALL_CLAIMS = (FULL_CLAIM, IN, FITTING, CLOSED, BELOW, NOT_BELOW, OUT)

CALLS = [
    (lines.roads_of_places, [WORD, ("places", "places", (0, 2, 3))], {}),
    (lines.places_of, [WORD, ("road", "doubled road", ("W", 0, "ESES"))], {}),
    (lines.lot_of_ordering, [WORD, ORDERING], {}),
    (lines.ordering_of, [WORD, DOUBLED_LOT], {}),
    (lines.ordering_of, [("word", "letters", "EEE"), STREET_LOT], {}),
    (lines.orderings_of, [WORD, DOUBLED_LOT], {}),
    (lines.orderings_of, [("word", "letters", "EEE"), STREET_LOT], {}),
    (lines.tell_one, [WORD, ORDERING, OTHER_ORDERING], {}),
    (lines.sorted_bag, [WORD, TABLE], {}),
    (lines.count_line, [("word", "letters", "ESB0E")], {}),
    (lines.diagonal_of, [MANY, ("road", "street road", ("N", 0, "EES"))], {}),
    (lines.road_of_diagonal, [MANY, ("diagonal", "diagonal", (1, 4))], {}),
    (lines.triangles_of, [MANY, STREET_LOT], {}),
    (lines.lot_of_triangles, [MANY, ("triangles", "triangles", FAN)], {}),
    (cuts.cut, [TOWN, HERE, STRUCK], FAR),
    (cuts.cut, [TOWN, HERE, PARTED], {"way": "E"}),
    (cuts.kept_crossings, [TOWN, HERE, STRUCK], FAR),
    (cuts.kept_table, [TOWN, HERE, STRUCK, TABLE], FAR),
    (cuts.kept_table, [TOWN, HERE, PARTED, TABLE], {"way": "E"}),
    (cuts.broken_road, [TOWN, HERE, STRUCK, ("road", "road", ("W", 0, "ESE"))], FAR),
    (cuts.broken_road, [TOWN, HERE, PARTED, ("road", "road", ("W", 0, "ESE"))], {"way": "E"}),
    (cuts.broken_bag, [TOWN, HERE, PARTED, BAG], FAR),
    (cuts.is_gone, [TOWN, HERE, PARTED, ALONG], FAR),
    (cuts.stretch_ahead, [TOWN, HERE, PARTED, ("stretch", "stretch", (0, "SE"))], {}),
    (cuts.lot_behind, [TOWN, HERE, STRUCK, FULL], FAR),
    (cuts.least_ahead, [TOWN, HERE, STRUCK, ("lot", "full", LEFT)], {}),
    (cuts.greatest_ahead, [TOWN, HERE, STRUCK, ("lot", "full", LEFT)], {}),
    (cuts.lots_ahead, [TOWN, HERE, STRUCK, ("lot", "full", LEFT)], {}),
    (cuts.beside, [TOWN, ("other", "city", TWICE)], {}),
    (cuts.lot_of_both, [TOWN, ("other", "city", SQUARE), FULL, ("more", "full", LEAST)], {}),
    (cuts.lots_of_both, [TOWN, ("other", "city", TWICE), ("lot", "full", BOTH)], {}),
    (solid.height, [TOWN, LOW], {}),
    (solid.corner, [TOWN, FULL], {}),
    (solid.worth, [TOWN, TABLE, PRICES], {}),
    (solid.best_worth, [TOWN, PRICES], {}),
    (solid.is_best, [TOWN, FULL, PRICES], {}),
    (solid.best_lot, [TOWN, PRICES], {}),
    (solid.edge, [TOWN, FULL, ("road", "road", FOUR[1])], {"road": ("W", 0, "EE")}),
    (solid.lot_at, [TOWN, ("table", "table", (5, -4, 4, 5))], {"table": (0, 0, 0, 0)}),
    (told.told, [TOWN, LOT], {}),
    (told.told_lots, [TOWN, LOT], {}),
    (told.how_many_told, [TOWN, LOT], {}),
    (told.let_go, [TOWN, FULL, ("stretches", "stretches", ((0, ""), (1, "")))], {"stretches": ((0, "E"),)}),
    (told.with_seams, [TOWN, ("stretches", "stretches", ((0, "E"), (2, "")))], {"stretches": OVER}),
    (told.least_above, [TOWN, ("stretches", "stretches", ((0, "S"), (2, "E")))], {}),
    (told.window, [TOWN, ("crossings", "crossings", (0, 1, 3))], {"crossings": (1, 4, 5)}),
    (told.seen, [TOWN, FULL, ("crossings", "crossings", (0, 1, 3))], {"crossings": (-1, 2)}),
    (moved.exchanged_sides, [TOWN], {}),
    (moved.turned_about, [TOWN], {}),
    (moved.road_moved, [TOWN, LOW, ("way", "move", "about")], {}),
    (moved.road_moved, [TOWN, LOW, ("way", "move", "sides")], {}),
    (moved.stretch_moved, [TOWN, ALONG, ("way", "move", "about")], {}),
    (moved.table_moved, [TOWN, TABLE, ("way", "move", "sides")], {}),
    (moved.lot_moved, [TOWN, LOT, ("way", "move", "about")], {}),
    (moved.renamed, [TOWN, ("numbers", "renaming", (0, 2, 1, 3))], {}),
    (moved.renamed_back, [("numbers", "each once", (2, 0, 1, 3))], {}),
    (moved.are_alike, [TOWN, ("other", "city", SQUARE[::-1])], {}),
    (moved.numbers_to, [TOWN, ("other", "city", SQUARE[::-1])], {"other": ALLEY}),
    (moved.how_many_selves, [TOWN], {}),
    (texts.sheet_text, [("sheet", "sheet", SHEET)], {}),
    (texts.city_text, [TOWN], {}),
    (texts.road_text, [TOWN, LOW], {}),
    (texts.picture, [("cells", "floor", ((0, 0), (0, 1), (1, 0), (1, 1))), ("road", "road or none", LOW[2])], {}),
    (judge.is_so, [("claim", "claim", IN)], {}),
    (judge.paper_against, [("claim", "claim", UNFITTING)], {}),
    (judge.paper_against, [("claim", "claim", ASTRAY)], {}),
    (judge.paper_against, [("claim", "claim", NOT_BELOW)], {}),
    (judge.reason_for, [("claim", "claim", BELOW)], {}),
    (judge.reason_for, [("claim", "claim", EXCHANGED)], {}),
    (judge.reason_for, [("claim", "claim", CLOSED)], {}),
    (judge.first_fallen, [("claims", "claims", ALL_CLAIMS)], {}),
]


def judging(claim):
    return [("claim", "claim", claim)]


THINGS = [
    (lines.is_ordering, [WORD], (1, 4, 2, 0, 3)),
    (solid.is_corner, [TOWN], (5, -4, 4, 5)),
    (moved.are_numbers, [TOWN], (0, 2, 1, 3)),
    (moved.are_numbers_to, [TOWN, ("other", "city", SQUARE[::-1])], (0, 2, 1, 3)),
    (texts.is_sheet, [], SHEET),
    (judge.is_claim, [], EXCHANGED),
    (judge.is_claim, [], BELOW),
    (judge.is_claim, [], IN),
    (judge.is_paper_against, judging(SOME_CLAIM), ("N", 1, "E")),
    (judge.is_paper_against, judging(OUT), (("W", 2, "ES"), -2)),
    (judge.is_paper_against, judging(ASTRAY), ("W", 2, "S")),
    (judge.is_paper_against, judging(NOT_BELOW), (1, "")),
    (judge.is_paper_against, judging(UNFITTING), ((0, ""), (0, "S"))),
    (judge.is_paper_against, judging(UNCLOSED), (3, "")),
    (judge.is_reason_for, judging(FULL_CLAIM), (((1, ""), -1), ((0, ""), 1), ((3, ""), 1), ((2, ""), 1))),
    (judge.is_reason_for, judging(IN), ((("N", 1, "E"), 1), (("W", 0, "SS"), 2), (("W", 2, "ES"), 1))),
    (judge.is_reason_for, judging(EXCHANGED), ((0, ""), 1)),
    (judge.is_reason_for, judging(BELOW), ((0, ""), (2, ""), (2, "E"), (3, ""))),
    (judge.is_reason_for, judging(FITTING), (("N", 0, "ESS"), ("W", 0, "ESE"), ("W", 0, "ESS"), ("W", 2, "S"))),
    (judge.is_reason_for, judging(CLOSED), (("N", 0, "ESS"), ("W", 0, "ESE"), ("W", 0, "ESS"), ("W", 2, "S"))),
]

TEXTS = [
    (texts.read_sheet, {"text": texts.sheet_text(SHEET)}),
    (texts.read_city, {"text": texts.city_text(SQUARE)}),
    (texts.read_road, {"city": SQUARE, "text": "west\n0 # no sign\nses"}),
    (texts.read_picture, {"text": "..o\n-7.\n.|.\n"}),
]

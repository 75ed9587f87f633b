"""Texts and pictures, promise 24."""

import unittest
from itertools import combinations, product

from neverbrush.errors import BadText, CanNot
from neverbrush.floors import line, of_cells, rectangle, ring
from neverbrush.forms import home
from neverbrush.lots import greatest_lot, is_lot, least_lot
from neverbrush.texts import city_text, is_sheet, picture, read_city, read_picture, read_road, read_sheet, road_text
from neverbrush.texts import sheet_text
from tests import plain
from tests.checks import Checks
from tests.made import ALLEY, APART, BOW, DOUBLED_60, LONE, NAMED, ODD_THINGS, SIXTIES, SQUARE, TWICE, Figures
from tests.made import listed, listed_below, made_cities, made_table
from tests.plain_lots import LITTLE, town

SIGNS = "abcdefghijklmnopqrstuvwxyz0123456789-"
SIDES = {"west": "W", "north": "N"}


def number_in(word):
    figures = word[word.startswith("-"):]
    if not figures.isdigit() or len(figures) > 12 or str(int(word)) != word:
        return None
    return int(word)


def read_plainly(text):
    """The SHEET that a text tells, or the line of BadText, row by row as the document says it."""
    rows = []
    for at, own in enumerate(text.split("\n")):
        own = own.split("#")[0]
        if any(sign not in SIGNS + " " for sign in own):
            return at
        if own.split():
            rows.append((at, own.split()))
    streets, tables, lots, city = {"east": [], "south": []}, [], [], None
    for at, (name, *told) in rows:
        numbers = [number_in(word) for word in told]
        if name in streets:
            if city is not None or (name == "east" and streets["south"]):
                return at
            if not numbers or None in numbers or numbers[0] < 0 or any(b <= a for a, b in zip(numbers, numbers[1:])):
                return at
            if streets[name] and tuple(numbers) <= streets[name][-1]:
                return at
            streets[name].append(tuple(numbers))
            continue
        city = city_by(streets)
        if city is None:
            return at
        if name == "table":
            if lots or None in numbers or len(numbers) != plain.size(city):
                return at
            tables.append(tuple(numbers))
        elif name == "lot" and not told:
            lots.append(())
        elif name == "road" and lots and len(told) == 3 and told[0] in SIDES and set(told[2]) <= {"e", "s"}:
            road = (SIDES[told[0]], numbers[1], told[2].upper())
            if road not in plain.bent_roads(city) or (lots[-1] and road <= lots[-1][-1]):
                return at
            if any(plain.brushing(city, road, other) for other in lots[-1]):
                return at
            lots[-1] += (road,)
        else:
            return at
    if city_by(streets) is None:
        return rows[-1][0] if rows else 0
    return (city_by(streets), tuple(tables), tuple(lots))


def city_by(streets):
    many = sum(map(len, streets["east"]))
    good = many and all(sorted(sum(own, ())) == list(range(many)) for own in streets.values())
    return (tuple(streets["east"]), tuple(streets["south"])) if good else None


def made_sheet(figures, city, size=5):
    own = town(city)
    tables = tuple(made_table(figures, own.size, size) for _ in range(figures.below(4)))
    return (city, tables, tuple(figures.one_of(own.lots) for _ in range(figures.below(4))))


def with_blanks(figures, text):
    """The text with more blanks, remarks at ends of lines, lines without words."""
    rows = []
    for row in text.split("\n")[:-1]:
        while not figures.below(3):
            rows.append(figures.one_of(("", "   ", "# east 0", " # Road!")))
        rows.append(" " * figures.below(3) + row.replace(" ", " " * figures.between(1, 3)) + figures.one_of(("", " ", "# .!", " # a")))
    return "\n".join(rows) + figures.one_of(("", "\n", "\n\n", "\n# end"))


class Sheets(Checks):
    def judge(self, text):
        known = read_plainly(text)
        if isinstance(known, int):
            self.raises(BadText, {"line": known}, read_sheet, text)
            self.raises(BadText, {"line": known}, read_city, text)
        else:
            self.assertEqual(repr(read_sheet(text)), repr(known))
            self.assertEqual(read_city(text), known[0])

    def test_there_and_back(self):
        figures = Figures(241)
        for city in LITTLE:
            for _ in range(5):
                sheet = made_sheet(figures, city)
                text = sheet_text(sheet)
                self.assertEqual(read_sheet(text), sheet)
                self.assertEqual(sheet_text(listed(sheet)), text)
                for depth in range(6):
                    self.assertEqual(sheet_text(listed_below(sheet, depth)), text)
                self.assertIs(is_sheet(sheet), True)
                self.judge(text)
                other = with_blanks(figures, text)
                self.assertEqual(read_sheet(other), sheet)
                self.judge(other)

    def test_the_text_as_told(self):
        for city in NAMED:
            for tables, lots in (((), ()), (((0,) * plain.size(city),), ((), least_lot(city)))):
                rows = ["east " + " ".join(map(str, street)) for street in city[0]]
                rows += ["south " + " ".join(map(str, street)) for street in city[1]]
                rows += ["table " + " ".join(map(str, table)) for table in tables]
                for lot in lots:
                    rows.append("lot")
                    rows += ["road {} {} {}".format({"W": "west", "N": "north"}[side], first, moves.lower())
                             for side, first, moves in lot]
                self.assertEqual(sheet_text((city, tables, lots)), "".join(row + "\n" for row in rows))
            self.assertEqual(city_text(city), sheet_text((city, (), ())))
            self.assertEqual(city_text(listed(city)), city_text(city))
            self.assertEqual(read_city(city_text(city)), city)
        self.assertEqual(sheet_text((LONE, ((-10 ** 12 + 1,), (10 ** 12 - 1,), (0,)), ((),))),
                         "east 0\nsouth 0\ntable -999999999999\ntable 999999999999\ntable 0\nlot\n")

    def test_bent_ones_by_the_first_fault(self):
        figures = Figures(242)
        words = ("east", "south", "table", "lot", "road", "west", "north", "es", "s", "e", "0", "1", "2", "-1", "00", "9", "x", "-")
        for city in (LONE, SQUARE, ALLEY, TWICE, BOW, APART):
            for _ in range(400):
                rows = [row.split(" ") for row in sheet_text(made_sheet(figures, city, 2)).split("\n")[:-1]]
                for _ in range(figures.between(1, 3)):
                    self.bend(figures, rows, words)
                self.judge("\n".join(" ".join(row) for row in rows) + figures.one_of(("\n", "", "\n\n")))

    def bend(self, figures, rows, words):
        kind, at = figures.below(8), figures.below(len(rows))
        row = rows[at]
        if kind == 0 and len(rows) > 1:
            del rows[at]
        elif kind == 1:
            rows.insert(figures.below(len(rows) + 1), list(row))
        elif kind == 2:
            other = figures.below(len(rows))
            rows[at], rows[other] = rows[other], rows[at]
        elif kind == 3 and row:
            row[figures.below(len(row))] = figures.one_of(words)
        elif kind == 4:
            row.insert(figures.below(len(row) + 1), figures.one_of(words))
        elif kind == 5 and len(row) > 1:
            row.pop()
        elif kind == 6:
            rows.insert(at, [])
        elif row and not figures.below(4):
            row[-1] += figures.one_of((".", "A", "|", "\t"))

    def test_each_fault(self):
        good = "east 0 1\nsouth 0\nsouth 1\n"
        for text, at in (
                ("", 0), ("\n\n", 0), ("# no row", 0), (" \n # a\n\n", 0), ("east 0", 0), ("east 0\n\n", 0), ("\n\neast 0\n\n", 2),
                ("south 0", 0), ("south 0\neast 0", 1), ("east\nsouth 0", 0), ("east -1\nsouth 0", 0), ("east 0 0\nsouth 0", 0),
                ("east 1 0\nsouth 0", 0), ("east 00\nsouth 0", 0), ("east x\nsouth 0", 0), ("east 0 -1\nsouth 0", 0),
                ("east 0\neast 0\nsouth 0", 1), ("east 1\neast 0\nsouth 0\nsouth 1", 1), ("east 0\nsouth 1", 1),
                ("east 0\nsouth 0\neast 1", 2), ("east 0 1\nsouth 0", 1), ("east 0 1\nsouth 1\nsouth 0", 2),
                ("east 0 1\neast 1 2\nsouth 0 1 2\n\n", 2), ("east 0\nsouth 0\nsouth 1\n", 2), ("table 0\neast 0\nsouth 0", 0),
                ("lot", 0), ("road west 0 s", 0), ("what", 0), ("east 0\ntable 0\nsouth 0", 1), ("east 0\nwhat\nsouth 0", 1),
                (good + "table 0", 3), (good + "table 0 1 2", 3), (good + "table", 3), (good + "table 0 x", 3),
                (good + "table 0 00", 3), (good + "table 0 -0", 3), (good + "table 0 1000000000000", 3),
                (good + "lot\ntable 0 0", 4), (good + "lot\neast 2", 4), (good + "table 0 0\nsouth 2", 4), (good + "lot 0", 3),
                (good + "lots", 3), (good + "road west 0 s", 3), (good + "table 0 0\nroad west 0 s", 4),
                (good + "lot\nroad west 0", 4), (good + "lot\nroad west 0 s s", 4), (good + "lot\nroad", 4),
                (good + "lot\nroad south 0 s", 4), (good + "lot\nroad w 0 s", 4), (good + "lot\nroad west 1 s", 4),
                (good + "lot\nroad west 00 s", 4), (good + "lot\nroad west -0 s", 4), (good + "lot\nroad west 0 x", 4),
                (good + "lot\nroad west 0 e", 4), (good + "lot\nroad west 0 ss", 4), (good + "lot\nroad west 0 ee", 4),
                (good + "lot\nroad north 0 s", 4), (good + "lot\nroad 0 west s", 4),
                (good + "lot\nroad west 0 s\nroad west 0 s", 5), (good + "lot\nroad west 0 s\nroad west 0 es", 5),
                (good + "lot\nroad north 0 ee\nroad west 0 s", 5), (good + "lot\n\n# a\nroad north 0 ee\nroad west 0 s", 7),
                (good + "lot\nroad north 1 e\nroad west 0 es", 5), (good + "what 0", 3), (good + "0", 3), (good + "-", 3),
                ("what\neast 0.\n", 1), (good + "lot\nroad W 0 s", 4), ("south 0\n\n#\neast 0\neast A", 4),
                ("east 0\nsouth 0\ntable 0\nwhat # ok\n!", 4)):
            with self.subTest(text):
                self.assertEqual(read_plainly(text), at)
                self.raises(BadText, {"line": at}, read_sheet, text)
                self.raises(BadText, {"line": at}, read_city, text)
        self.judge(good + "lot\nroad west 0 s\nlot\nlot\nroad west 0 s\n")
        self.judge(good)

    def test_sixty(self):
        figures = Figures(243)
        for city in SIXTIES + made_cities(5, 60, 244):
            many = plain.size(city)
            tables = ((10 ** 6,) * many, (-10 ** 6,) * many, made_table(figures, many, 10 ** 6))
            lots = (least_lot(city), home(city, made_table(figures, many, 30)), (), greatest_lot(city))
            sheet = (city, tables, lots)
            self.assertEqual(read_sheet(sheet_text(sheet)), sheet)
            self.assertIs(is_sheet(sheet), True)
            self.assertEqual(read_city(city_text(city)), city)
        rows = sheet_text((DOUBLED_60, (), (least_lot(DOUBLED_60),))).split("\n")
        rows[10] = "road west 0 " + "e" * 60
        self.raises(BadText, {"line": 10}, read_sheet, "\n".join(rows))
        text = "east " + "9" * 12 + "\nsouth " + "9" * 12
        self.raises(BadText, {"line": 1}, read_sheet, text)
        self.raises(BadText, {"line": 0}, read_sheet, text.replace("9" * 12, "9" * 13, 1))
        self.raises(BadText, {"line": 1}, read_sheet, "east 0\nsouth 0 " + "9" * 5000)

    def test_is_sheet(self):
        figures = Figures(245)
        for thing in ODD_THINGS:
            self.assertIs(is_sheet(thing), False)
        for city in LITTLE[::3]:
            sheet = made_sheet(figures, city)
            for depth in range(6):
                other = listed_below(sheet, depth)
                self.assertIs(is_sheet(other), repr(other) == repr(sheet))
        self.assertIs(is_sheet((LONE, ((0,),) * 5000, ((),) * 5000)), True)
        self.assertIs(is_sheet((LONE, ((False,),), ())), False)
        self.assertIs(is_sheet((LONE, (), ((("W", False, "S"),),))), False)
        self.assertIs(is_sheet((LONE, (), ((("N", 0, "E"), ("W", 0, "S")),))), False)
        self.assertIs(is_sheet((LONE, (), ((("W", 0, "E"),),))), False)
        self.assertIs(is_sheet((LONE, (), (("W", 0, "S"),))), False)


class Roads(Checks):
    def test_there_and_back(self):
        for city in LITTLE:
            for road in plain.all_roads(city):
                side, first, moves = road
                text = road_text(city, road)
                self.assertEqual(text, "{} {} {}".format({"W": "west", "N": "north"}[side], first, moves.lower()))
                self.assertEqual(road_text(listed(city), list(road)), text)
                for own in (text, text + "\n", text.replace(" ", "\n"), "\n\n " + text.replace(" ", "  # .\n") + "#", text + "\n#\n"):
                    self.assertEqual(read_road(city, own), road)
                self.assertEqual(read_road(listed(city), text), road)
        long = ("N", 0, "ES" * 30)
        self.assertEqual(read_road(DOUBLED_60, road_text(DOUBLED_60, long)), long)

    def test_other_texts(self):
        for text in ("", "\n", "west", "west 0", "west 0 ses ses", "road west 0 ses", "east 0 ses", "w 0 ses", "west 1 ses", "0 west ses",
                     "west 00 ses", "west -0 ses", "west -1 s", "west 0 se", "west 0 sesx", "west 0 s-s", "west x ses", "ses 0 west",
                     "# west 0 ses", "west 0 # ses", "west 0 0", "\n\nwest\n0\nse", "west 0 s e s", "west 4 s", "west 0 " + "e" * 99):
            self.raises(BadText, {"line": 0}, read_road, SQUARE, text)
        for text, at in (("west 0 SES", 0), ("west\n0\nSES", 2), ("west 0 ses.", 0), ("what\n\n!", 2), ("west 0 ses\n_", 1), ("\n\tw", 1)):
            self.raises(BadText, {"line": at}, read_road, SQUARE, text)
        self.unfit(read_road, (), "west 0 s")
        self.unfit(read_road, (), "!")
        self.unfit(road_text, SQUARE, ("W", 0, "S"))
        self.unfit(road_text, None, ("W", 0, "S"))
        self.assertEqual(read_road(SQUARE, "west 0 ee"), ("W", 0, "EE"))


def picture_plainly(cells, road):
    signs = {cell: "o" for cell in cells}
    if road is not None:
        for at, side, way in plain.passes(of_cells(cells), road):
            signs[cells[at]] = {"WE": "-", "WS": "7", "NS": "|", "NE": "L"}[side + way]
    high, wide = max(down for down, _ in cells), max(across for _, across in cells)
    return "".join("".join(signs.get((down, across), ".") for across in range(wide + 1)) + "\n" for down in range(high + 1))


def all_pictures(high, wide):
    """By picture its floor and ROAD, of all floors in so many rows and columns."""
    places, found = list(product(range(high), range(wide))), {}
    for many in range(1, len(places) + 1):
        for cells in combinations(places, many):
            for road in [None] + plain.all_roads(of_cells(cells)):
                found[picture_plainly(cells, road)] = (cells, road)
    return found


class Pictures(Checks):
    def test_there_and_back(self):
        for text, (cells, road) in all_pictures(3, 3).items():
            self.assertEqual(picture(cells, road), text)
            self.assertEqual(read_picture(text), (cells, road))
        self.assertEqual(picture(listed(cells), listed(road)), text)

    def test_all_small_texts(self):
        for high, wide in ((1, 1), (1, 3), (3, 1), (2, 2), (2, 3), (1, 5)):
            known = all_pictures(high, wide)
            for signs in product(".o-7|L", repeat=high * wide):
                text = "".join("".join(signs[k * wide:(k + 1) * wide]) + "\n" for k in range(high))
                if text in known:
                    self.assertEqual(read_picture(text), known[text])
                else:
                    self.raises(CanNot, {}, read_picture, text)

    def test_each_sign_exchanged(self):
        for cells, road in ((((0, 0), (0, 1), (1, 1), (2, 0), (2, 1)), ("N", 0, "ESSE")), (((1, 2), (1, 3), (4, 2)), ("W", 0, "EE"))):
            text = picture(cells, road)
            for k in range(len(text)):
                for sign in ".o-7|Lx \nO":
                    self.judge(text[:k] + sign + text[k + 1:])
                self.judge(text[:k] + text[k + 1:])
                self.judge(text[:k])
                self.judge(text[k:])

    def judge(self, text):
        """Told by the words of the document, and by what picture makes of what was read."""
        rows = text.split("\n")
        is_ended = rows.pop() == ""
        if not is_ended:
            rows = text.split("\n")
        bad = [at for at, row in enumerate(rows) if not row or len(row) != len(rows[0]) or set(row) - set(".o-7|L")]
        if bad or not is_ended or not rows:
            at = bad[0] if bad else max(0, len(rows) - 1)
            self.raises(BadText, {"line": at}, read_picture, text)
            return
        try:
            cells, road = read_picture(text)
        except CanNot:
            cells = tuple((down, across) for down, row in enumerate(rows) for across, sign in enumerate(row) if sign != ".")
            roads = [None] + plain.all_roads(of_cells(cells)) if cells else []
            self.assertNotIn(text, [picture_plainly(cells, road) for road in roads])
        else:
            self.assertEqual(picture(cells, road), text)

    def test_bad_lines(self):
        for text, at in (("", 0), ("o", 0), ("oo\noo", 1), ("\n", 0), ("o\n\n", 1), ("oo\no\n", 1), ("oo\nooo\n", 1), ("ox\n", 0),
                         ("o\nO\n", 1), ("o \n", 0), (" o\n", 0), ("o\n\no\n", 1), ("oo\noo\no", 2), ("..\n..\n.", 2), ("o\r\n", 0),
                         ("-\n7\n#\n", 2), ("o\no\no", 2), ("oo\nx", 1), ("..", 0), ("x", 0), ("\no\n", 0)):
            self.raises(BadText, {"line": at}, read_picture, text)
        for text in (".\n", "..\n..\n", "o.\n", "o\n.\n", "o-\n7o\n", "--.\n", "7\n7\n", "-o\n", "o7\n.|\n", "|\nL\no\n|\n", "L7\n|.\n"):
            self.raises(CanNot, {}, read_picture, text)

    def test_edges(self):
        for sign, road in (("o", None), ("-", ("W", 0, "E")), ("7", ("W", 0, "S")), ("|", ("N", 0, "S")), ("L", ("N", 0, "E"))):
            self.assertEqual(read_picture(sign + "\n"), (((0, 0),), road))
            self.assertEqual(picture(((0, 0),), road), sign + "\n")
            self.assertEqual(read_picture("..\n." + sign + "\n"), (((1, 1),), road))
            self.assertEqual(picture(((1, 1),), road), "..\n." + sign + "\n")
        text = picture(((100, 100),), ("W", 0, "S"))
        self.assertEqual(text, ("." * 101 + "\n") * 100 + "." * 100 + "7\n")
        self.assertEqual(read_picture(text), (((100, 100),), ("W", 0, "S")))
        far = ((0, 0), (0, 100), (100, 0))
        self.assertEqual(read_picture(picture(far, ("N", 1, "E"))), (far, ("N", 1, "E")))

    def test_sixty_cells(self):
        figures = Figures(246)
        rim = tuple((down, across) for down in range(16) for across in range(16) if down in (0, 15) or across in (0, 15))
        self.assertEqual(of_cells(rim), ring(16, 16))
        block = tuple(product(range(6), range(10)))
        self.assertEqual(of_cells(block), rectangle(6, 10))
        some = tuple(sorted({(figures.below(9), figures.below(9)) for _ in range(60)}))
        for cells in (rim, block, some):
            city = of_cells(cells)
            roads = [None] + list(least_lot(city)) + list(home(city, made_table(figures, len(cells), 30)))
            for road in roads:
                text = picture(cells, road)
                self.assertEqual(text, picture_plainly(cells, road))
                self.assertEqual(read_picture(text), (cells, road))
        self.assertIs(is_lot(line("E"), ()), True)

    def test_wrong(self):
        for cells in ((), None, ((0, 1), (0, 0)), ((0, -1),), ((0, True),), 5):
            self.unfit(picture, cells, None)
            self.unfit(picture, cells, ("W", 9, "S"))
        for road in ((), ("W", 0, "S"), ("W", 1, "S"), 0, False, "", ("N", 0, "EE", 0)):
            self.unfit(picture, ((0, 0), (0, 1), (1, 0)), road)
        self.assertEqual(picture(((0, 0), (0, 1), (1, 0)), ("W", 0, "SE")), "7o\nL.\n")


if __name__ == "__main__":
    unittest.main()

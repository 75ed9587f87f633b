"""SHEETS: a city, tables of it, lots of it; told by rows of words, and read row by row."""

from neverbrush.errors import BadText
from neverbrush.fits import road_from, table_from
from neverbrush.fulls import lot_from
from neverbrush.kinds import as_row, as_row_of
from neverbrush.pieces import is_brushing
from neverbrush.plans import Plan, city_from, street_from
from neverbrush.routes import is_turning, passes_of
from neverbrush.signs import number_of, word_of, words

SIDE_OF = {"west": "W", "north": "N"}
WORD_OF = {"W": "west", "N": "north"}


def sheet_from(value):
    """The SHEET in tuples, None if value is none."""
    rows = as_row_of(value, 3)
    city = None if rows is None else city_from(rows[0])
    if city is None or as_row(rows[1]) is None or as_row(rows[2]) is None:
        return None
    plan = Plan(city)
    tables = [table_from(plan, own) for own in rows[1]]
    lots = [lot_from(plan, own) for own in rows[2]]
    if any([own is None for own in tables + lots]):
        return None
    return (city, tuple(tables), tuple(lots))


def row_of_numbers(name, numbers):
    """The row of this name with these numbers."""
    return " ".join([name] + [word_of(number) for number in numbers])


def words_of_road(road):
    """The three words of a ROAD, one blank between two."""
    side, first, moves = road
    return " ".join([WORD_OF[side], word_of(first), moves.lower()])


def text_of_sheet(sheet):
    """The text of a SHEET in tuples."""
    (east, south), tables, lots = sheet
    rows = [row_of_numbers("east", street) for street in east]
    rows.extend([row_of_numbers("south", street) for street in south])
    rows.extend([row_of_numbers("table", table) for table in tables])
    for lot in lots:
        rows.append("lot")
        rows.extend(["road " + words_of_road(road) for road in lot])
    return "".join([row + "\n" for row in rows])


def road_by_words(plan, told):
    """The ROAD of the words told, None if they tell none."""
    if len(told) != 3 or told[0] not in SIDE_OF:
        return None
    return road_from(plan, (SIDE_OF[told[0]], number_of(told[1]), told[2].upper()))


class Reader:
    """A SHEET of which some rows are read: streets by name, plan behind the last of them, tables, lots.

    passes are those of the ROADS of the last one of lots.
    """

    def __init__(self):
        self.streets = {"east": [], "south": []}
        self.plan = None
        self.tables = []
        self.lots = []
        self.passes = []

    def take(self, told):
        """Takes a row of words; False if it is not as told or can't stand there."""
        name, further = told[0], told[1:]
        if name in self.streets:
            return self.take_street(name, further)
        if not self.is_laid_out():
            return False
        if name == "table":
            return self.take_table(further)
        if name == "lot":
            self.lots.append([])
            self.passes = []
            return not further
        return name == "road" and self.take_road(further)

    def is_laid_out(self):
        """Lays the CITY out if this was not done yet; False if the streets are none."""
        if self.plan is None:
            city = city_from((self.streets["east"], self.streets["south"]))
            self.plan = None if city is None else Plan(city)
        return self.plan is not None

    def take_street(self, name, told):
        """Takes a street."""
        if self.plan is not None or (name == "east" and self.streets["south"]):
            return False
        street = street_from([number_of(word) for word in told])
        known = self.streets[name]
        if street is None or street[0] < 0 or (known and street <= known[-1]):
            return False
        known.append(street)
        return True

    def take_table(self, told):
        """Takes a TABLE."""
        table = table_from(self.plan, [number_of(word) for word in told])
        if table is None or self.lots:
            return False
        self.tables.append(table)
        return True

    def take_road(self, told):
        """Takes a ROAD of the last one of lots."""
        road = road_by_words(self.plan, told)
        if road is None or not self.lots or not is_turning(road):
            return False
        lot, rows = self.lots[-1], passes_of(self.plan, road)
        if (lot and road <= lot[-1]) or any([is_brushing(rows, own) for own in self.passes]):
            return False
        lot.append(road)
        self.passes.append(rows)
        return True

    def sheet(self):
        """The SHEET of all that was taken."""
        return (self.plan.streets, tuple(self.tables), tuple([tuple(lot) for lot in self.lots]))


def rows_of(text):
    """The list of the pairs (line, words) of the lines of text that have words."""
    rows = []
    for word, line in words(text):
        if not rows or rows[-1][0] != line:
            rows.append((line, []))
        rows[-1][1].append(word)
    return rows


def sheet_of_text(text):
    """The SHEET of a text; BadText(line) for the first row that is not as told, or can't stand there."""
    rows, reader = rows_of(text), Reader()
    for line, told in rows:
        if not reader.take(told):
            raise BadText(line)
    if not reader.is_laid_out():
        raise BadText(rows[-1][0] if rows else 0)
    return reader.sheet()

"""Texts and pictures: cities, tables, lots, roads, floors, told and read."""

from neverbrush.errors import BadText, Unfit
from neverbrush.fits import fit_plan, fit_road
from neverbrush.floors import city_of_cells, fit_floor
from neverbrush.pictures import picture_of_text, text_of_picture
from neverbrush.plans import Plan
from neverbrush.sheets import road_by_words, sheet_from, sheet_of_text, text_of_sheet, words_of_road
from neverbrush.signs import words


def is_sheet(thing):
    """Whether thing is a SHEET."""
    sheet = sheet_from(thing)
    return sheet is not None and sheet == thing


def sheet_text(sheet):
    """The text of sheet, a row a line."""
    own = sheet_from(sheet)
    if own is None:
        raise Unfit()
    return text_of_sheet(own)


def read_sheet(text):
    """The SHEET of text; BadText(line) if it tells none."""
    return sheet_of_text(text)


def city_text(city):
    """The text of the SHEET of city alone."""
    return text_of_sheet((fit_plan(city).streets, (), ()))


def read_city(text):
    """The CITY of the SHEET of text; BadText(line) if it tells none."""
    return sheet_of_text(text)[0]


def road_text(city, road):
    """The words of road: its side, its first crossing, its moves."""
    return words_of_road(fit_road(fit_plan(city), road))


def read_road(city, text):
    """The ROAD of a text of just its words; BadText(line) for another text."""
    plan = fit_plan(city)
    road = road_by_words(plan, [word for word, _ in words(text)])
    if road is None:
        raise BadText(0)
    return road


def picture(cells, road):
    """The picture of cells and of road, a ROAD of their CITY, or None."""
    own = fit_floor(cells)
    return text_of_picture(own, None if road is None else fit_road(Plan(city_of_cells(own)), road))


def read_picture(text):
    """The pair of the cells and of the ROAD, or None, of which text is the picture; BadText(line), then CanNot()."""
    return picture_of_text(text)

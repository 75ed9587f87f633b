"""Pictures: a floor of cells and a road on it, a line for each row of cells, a sign for each cell."""

from neverbrush.errors import BadText, CanNot
from neverbrush.fits import road_from
from neverbrush.floors import city_of_cells
from neverbrush.plans import Plan
from neverbrush.routes import passes_of

SIGN_OF = {"WE": "-", "WS": "7", "NS": "|", "NE": "L"}
NO_CELL = "."
NO_ROAD = "o"
SIGNS = ".o-7|L"


def text_of_picture(cells, road):
    """The picture of the cells of a floor and of a ROAD there, or None."""
    signs = [NO_ROAD] * len(cells)
    if road is not None:
        for crossing, side, way in passes_of(Plan(city_of_cells(cells)), road):
            signs[crossing] = SIGN_OF[side + way]
    wide = 1 + max([across for _, across in cells])
    rows = [[NO_CELL] * wide for _ in range(cells[-1][0] + 1)]
    for (down, across), sign in zip(cells, signs):
        rows[down][across] = sign
    return "".join(["".join(row) + "\n" for row in rows])


def lines_of_picture(text):
    """The list of the lines of text, each of as many of the signs; BadText(line) for the first one that is not so.

    Else for the last one, if it is not ended by a line break.
    """
    lines = text.split("\n")
    is_ended = lines[-1] == ""
    if is_ended:
        lines.pop()
    for number, line in enumerate(lines):
        if not line or len(line) != len(lines[0]) or any([sign not in SIGNS for sign in line]):
            raise BadText(number)
    if not lines or not is_ended:
        raise BadText(max(0, len(lines) - 1))
    return lines


def road_by_signs(plan, signs):
    """The triple of side, first crossing and moves that signs, one for each crossing, tell from their first one on."""
    first = [crossing for crossing in range(plan.size) if signs[crossing] != NO_ROAD][0]
    at, moves = first, ""
    while at is not None:
        way = "E" if signs[at] in "-L" else "S"
        at, moves = plan.nexts[way][at], moves + way
    return ("W" if signs[first] in "-7" else "N", first, moves)


def picture_of_text(text):
    """The pair of the cells and of the ROAD, or None, of which text is the picture; CanNot() if there is none."""
    lines = lines_of_picture(text)
    cells = [(down, across) for down, line in enumerate(lines) for across, sign in enumerate(line)
             if sign != NO_CELL]
    if not cells:
        raise CanNot()
    signs, road = [lines[down][across] for down, across in cells], None
    if any([sign != NO_ROAD for sign in signs]):
        plan = Plan(city_of_cells(cells))
        road = road_from(plan, road_by_signs(plan, signs))
    if text_of_picture(cells, road) != text:
        raise CanNot()
    return (tuple(cells), road)

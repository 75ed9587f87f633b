"""Counts by sums: how often each road of a full lot stands in a table."""

from neverbrush.errors import CanNot, NoRoad, Unfit
from neverbrush.fits import fit_plan, fit_road, fit_table
from neverbrush.flows import table_by
from neverbrush.fulls import finished_from, fit_full, inner_of
from neverbrush.kinds import are_numbers_all, as_row_of, is_just
from neverbrush.pieces import crossings_along
from neverbrush.rows import fit_rows


def forms(city, lot):
    """The FORMS of lot."""
    return fit_rows(city, lot).forms


def is_forms(city, lot, thing):
    """Whether thing is the FORMS of lot."""
    return is_just(thing, fit_rows(city, lot).forms)


def form_of(city, lot, road):
    """The FORM of road in lot."""
    rows = fit_rows(city, lot)
    own = fit_road(rows.plan, road)
    if own not in rows.lot:
        raise NoRoad(own)
    return rows.forms[rows.lot.index(own)]


def counts_of(rows, table):
    """The tuple of the counts of table, ROAD by ROAD."""
    counts = []
    for stretch, sign in rows.forms:
        counts.append(sign * sum([table[crossing] for crossing in crossings_along(rows.plan, stretch)]))
    return tuple(counts)


def fit_counts(city, lot, table):
    """The pair of the FULL LOT lot in tuples and of the counts of table in it."""
    rows = fit_rows(city, lot)
    return (rows.lot, counts_of(rows, fit_table(rows.plan, table)))


def counts_in(city, lot, table):
    """The tuple of the counts of table in lot, ROAD by ROAD."""
    _, counts = fit_counts(city, lot, table)
    return counts


def told_back(city, lot, counts):
    """The TABLE that has these counts."""
    plan = fit_plan(city)
    own = fit_full(plan, lot)
    numbers = as_row_of(counts, len(own))
    if numbers is None or not are_numbers_all(numbers):
        raise Unfit()
    return table_by(plan, list(zip(own, numbers)))


def standing(counts):
    """Where a TABLE with these counts stands: "in", "wall" or "out"."""
    least = min(counts)
    if least < 0:
        return "out"
    return "wall" if least == 0 else "in"


def stands(city, lot, table):
    """Where table stands: "in", "wall" or "out"."""
    _, counts = fit_counts(city, lot, table)
    return standing(counts)


def why_out(city, lot, table):
    """The pair (road, count) of the least ROAD whose count is below 0; CanNot() if there is none."""
    own, counts = fit_counts(city, lot, table)
    for road, count in zip(own, counts):
        if count < 0:
            return (road, count)
    raise CanNot()


def inner_table(city, lot):
    """The TURNS of all ROADS of lot added up."""
    plan = fit_plan(city)
    return inner_of(plan, fit_full(plan, lot))


def roads_by(city, lot, sign):
    """The set of the ROADS of lot whose FORM has this sign."""
    rows = fit_rows(city, lot)
    return tuple([rows.lot[number] for number in range(len(rows.lot)) if rows.forms[number][1] == sign])


def low_roads(city, lot):
    """The set of the low ROADS of lot."""
    return roads_by(city, lot, 1)


def high_roads(city, lot):
    """The set of the high ROADS of lot."""
    return roads_by(city, lot, -1)


def home(city, table):
    """The FULL LOT that has all ROADS of table's BAG, and all others of which are low."""
    plan = fit_plan(city)
    return finished_from(plan, fit_table(plan, table), 1)

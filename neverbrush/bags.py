"""Bags: for each table the roads, no two of which brush, whose turns add up to it."""

from neverbrush.errors import CanNot
from neverbrush.fits import fit_crossing, fit_number, fit_plan, fit_table, fit_way
from neverbrush.flows import bag_from, bag_of, fit_bag, fit_bag_of, pieces_at, table_by
from neverbrush.kinds import is_just
from neverbrush.pieces import is_brushing
from neverbrush.plans import beginnings_on
from neverbrush.routes import passes_of


def bag(city, table):
    """The BAG of table."""
    return fit_bag_of(fit_plan(city), table)


def is_bag(city, table, thing):
    """Whether thing is the BAG of table."""
    return is_just(thing, fit_bag_of(fit_plan(city), table))


def is_some_bag(city, thing):
    """Whether thing is a BAG of city."""
    found = bag_from(fit_plan(city), thing)
    return found is not None and found == thing


def table_of(city, bag):
    """The TABLE of bag."""
    plan = fit_plan(city)
    return table_by(plan, fit_bag(plan, bag))


def lot_of(city, table):
    """The LOT of the ROADS of the BAG of table."""
    return tuple([road for road, _ in fit_bag_of(fit_plan(city), table)])


def how_many_in(city, table):
    """How many ROADS the BAG of table has, each as often as it stands in it."""
    return sum([many for _, many in fit_bag_of(fit_plan(city), table)])


def on_pieces(city, table):
    """Crossing by crossing how many ROADS of the BAG come from W, from N, go E, go S."""
    plan = fit_plan(city)
    return pieces_at(plan, fit_table(plan, table))


def beginnings_of(city, table):
    """The set of the triples (side, first, many): how many ROADS of the BAG begin on each street."""
    plan = fit_plan(city)
    pieces = pieces_at(plan, fit_table(plan, table))
    return tuple([(side, first, pieces[first][0 if side == "W" else 1])
                  for side, first in beginnings_on(plan)])


def row_on(city, table, crossing, way):
    """The tuple of the pairs of the BAG whose ROADS leave crossing by way, as the row has them."""
    plan = fit_plan(city)
    numbers = fit_table(plan, table)
    fit_number(crossing)
    fit_way(way)
    fit_crossing(plan, crossing)
    row = []
    for road, many in bag_of(plan, numbers):
        passes = passes_of(plan, road)
        for k in range(len(passes)):
            if passes[k][0] == crossing and passes[k][2] == way:
                row.append((place_in_row(passes, k), (road, many)))
    return tuple([pair for _, pair in sorted(row)])


def place_in_row(passes, number):
    """What tells where the ROAD stands in the row behind its pass of this number.

    Gone back, the sides from which it comes, that from W ahead; then, gone on, its moves, E ahead.
    """
    back = [0 if passes[k][1] == "W" else 1 for k in range(number, -1, -1)]
    return (back, [own[2] for own in passes[number:]])


def bag_of_sum(city, bag, other):
    """The BAG of the TABLES of bag and other added up."""
    plan = fit_plan(city)
    table = table_by(plan, fit_bag(plan, bag))
    more = table_by(plan, fit_bag(plan, other))
    return bag_of(plan, [table[k] + more[k] for k in range(plan.size)])


def bag_of_less(city, bag):
    """The BAG of the TABLE of bag with each number n as -n."""
    plan = fit_plan(city)
    return bag_of(plan, [-number for number in table_by(plan, fit_bag(plan, bag))])


def fit_rows(city, table, other):
    """The pair of what the BAGS of two TABLES have: each a list of the pairs (road, passes)."""
    plan = fit_plan(city)
    own, others = fit_table(plan, table), fit_table(plan, other)
    return ([(road, passes_of(plan, road)) for road, _ in bag_of(plan, own)],
            [(road, passes_of(plan, road)) for road, _ in bag_of(plan, others)])


def brushing_pairs(city, table, other):
    """The list of the pairs of a ROAD of the one BAG and one of the other one that brush."""
    rows, others = fit_rows(city, table, other)
    return [(road, more) for road, passes in rows for more, also in others if is_brushing(passes, also)]


def are_one_lot(city, table, other):
    """Whether the ROADS of the BAGS of table and other are a LOT together."""
    return not brushing_pairs(city, table, other)


def why_not_one(city, table, other):
    """A ROAD of table's BAG and one of other's that brush; CanNot() if there are none."""
    pairs = brushing_pairs(city, table, other)
    if not pairs:
        raise CanNot()
    return pairs[0]


def is_why_not_one(city, table, other, thing):
    """Whether thing is a ROAD of table's BAG and one of other's that brush."""
    return any([is_just(thing, pair) for pair in brushing_pairs(city, table, other)])

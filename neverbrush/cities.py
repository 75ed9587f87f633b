"""Cities: their streets, their links, their parts."""

from neverbrush.errors import CanNot, Unfit
from neverbrush.fits import fit_crossing, fit_from, fit_number, fit_plan, fit_side, fit_way
from neverbrush.kinds import are_numbers_all, as_row, as_row_of, is_rising
from neverbrush.plans import SIDES, WAYS, beginnings_on, city_from, streets_by


def is_city(thing):
    """Whether thing is a CITY."""
    city = city_from(thing)
    return city is not None and city == thing


def how_many(city):
    """How many crossings city has."""
    return fit_plan(city).size


def street_with(streets, crossing):
    """The one of streets on which crossing lies."""
    return [street for street in streets if crossing in street][0]


def streets_of(city, crossing):
    """The pair of the east street and the south street of crossing."""
    plan = fit_plan(city)
    here = fit_crossing(plan, fit_number(crossing))
    east, south = plan.streets
    return (street_with(east, here), street_with(south, here))


def next_one(city, crossing, way):
    """The crossing to which way leads from crossing, None if it leads out."""
    plan = fit_plan(city)
    fit_number(crossing)
    fit_way(way)
    return plan.nexts[way][fit_crossing(plan, crossing)]


def ahead_one(city, crossing, side):
    """The crossing from which one comes to crossing from side, None if there is none."""
    plan = fit_plan(city)
    fit_number(crossing)
    fit_side(side)
    return plan.aheads[side][fit_crossing(plan, crossing)]


def beginnings(city):
    """The set of the pairs (side, crossing) by which a ROAD can begin."""
    return tuple(beginnings_on(fit_plan(city)))


def ends(city):
    """The set of the pairs (crossing, way) by which a ROAD can end."""
    plan = fit_plan(city)
    return tuple([(crossing, way) for crossing in range(plan.size) for way in WAYS
                  if plan.nexts[way][crossing] is None])


def links(city):
    """The pair of the set of the links by "E" and of those by "S"."""
    plan = fit_plan(city)
    return (links_by(plan.nexts["E"]), links_by(plan.nexts["S"]))


def links_by(there):
    """The set of the pairs (crossing, next one)."""
    return tuple([(crossing, there[crossing]) for crossing in range(len(there))
                  if there[crossing] is not None])


def by_links(many, east, south):
    """The CITY of many crossings with these links."""
    fit_from(many, 1)
    pairs_east = fit_links(many, east)
    pairs_south = fit_links(many, south)
    return (streets_by(next_by(many, pairs_east)), streets_by(next_by(many, pairs_south)))


def fit_links(many, value):
    """The set of the links value."""
    rows = as_row(value)
    if rows is None:
        raise Unfit()
    pairs = [as_row_of(own, 2) for own in rows]
    if not all([is_link(many, pair) for pair in pairs]) or not is_rising(pairs):
        raise Unfit()
    return pairs


def is_link(many, pair):
    """Whether pair is not None and may link two of many crossings."""
    return pair is not None and are_numbers_all(pair) and 0 <= pair[0] < pair[1] < many


def next_by(many, pairs):
    """The list of the next ones by pairs; CanNot() if two crossings have one next one, or one has two."""
    there, ahead = [None] * many, [None] * many
    for one, other in pairs:
        if there[one] is not None or ahead[other] is not None:
            raise CanNot()
        there[one], ahead[other] = other, one
    return there


def gone_to(first, tables):
    """The set of what is reached from first by steps that one of tables tells."""
    found, row = {first: True}, [first]
    while row:
        at = row.pop()
        for there in tables:
            if there[at] is not None and there[at] not in found:
                found[there[at]] = True
                row.append(there[at])
    return tuple(sorted(found))


def reached(city, crossing):
    """The set of the crossings to which ways lead from crossing, itself among them."""
    plan = fit_plan(city)
    here = fit_crossing(plan, fit_number(crossing))
    return gone_to(here, [plan.nexts[way] for way in WAYS])


def parts(city):
    """The set of the parts of city, each the set of its crossings."""
    plan = fit_plan(city)
    tables = [plan.nexts[way] for way in WAYS] + [plan.aheads[side] for side in SIDES]
    found, known = [], {}
    for crossing in range(plan.size):
        if crossing not in known:
            part = gone_to(crossing, tables)
            found.append(part)
            known.update({own: True for own in part})
    return tuple(found)

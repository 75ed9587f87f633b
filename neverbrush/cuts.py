"""Cut cities: a street parted, a crossing struck; what becomes of roads, bags, full lots; two cities beside."""

from neverbrush.errors import CanNot
from neverbrush.fits import fit_crossing, fit_number, fit_plan, fit_road, fit_stretch, fit_table, fit_word
from neverbrush.flows import fit_bag
from neverbrush.fulls import fit_full
from neverbrush.joins import greatest_with_above, least_with_under
from neverbrush.ladders import all_full
from neverbrush.plans import Plan
from neverbrush.rows import Rows
from neverbrush.windows import Window

CUTS = ("E", "S", "0")


def fit_cut(city, crossing, way):
    """The plan of a CITY to be cut. Whether it can be cut there is looked at behind all that may raise Unfit()."""
    plan = fit_plan(city)
    fit_number(crossing)
    fit_word(way, CUTS)
    return plan


def cut_on(plan, crossing, way):
    """What is left when plan is cut: NoCrossing(crossing), then CanNot() if it can not be cut so."""
    here = fit_crossing(plan, crossing)
    if way == "0":
        if plan.size == 1:
            raise CanNot()
        return Window(plan, tuple([own for own in range(plan.size) if own != here]), None)
    if plan.nexts[way][here] is None:
        raise CanNot()
    return Window(plan, tuple(range(plan.size)), (here, way))


def cut(city, crossing, way):
    """The cut CITY."""
    return cut_on(fit_cut(city, crossing, way), crossing, way).left.streets


def kept_crossings(city, crossing, way):
    """The tuple with the number in city of each crossing of the cut CITY."""
    return cut_on(fit_cut(city, crossing, way), crossing, way).kept


def kept_table(city, crossing, way, table):
    """The TABLE of the numbers of the crossings of the cut CITY."""
    plan = fit_cut(city, crossing, way)
    numbers = fit_table(plan, table)
    return tuple([numbers[own] for own in cut_on(plan, crossing, way).kept])


def broken_road(city, crossing, way, road):
    """The list of the parts of road, straight ones, too, in their order."""
    plan = fit_cut(city, crossing, way)
    own = fit_road(plan, road)
    return cut_on(plan, crossing, way).parts_of(own)


def broken_bag(city, crossing, way, bag):
    """The BAG of all bent parts, each as often as the ROADS of bag that have it together."""
    plan = fit_cut(city, crossing, way)
    own = fit_bag(plan, bag)
    window, many = cut_on(plan, crossing, way), {}
    for road, often in own:
        for part in window.bent_parts(road):
            many[part] = many.get(part, 0) + often
    return tuple([(part, many[part]) for part in sorted(list(many))])


def is_gone(city, crossing, way, stretch):
    """Whether stretch, one of city, is gone."""
    plan = fit_cut(city, crossing, way)
    own = fit_stretch(plan, stretch)
    return cut_on(plan, crossing, way).is_gone(own)


def stretch_ahead(city, crossing, way, stretch):
    """The STRETCH of city that stretch, one of the cut CITY, was."""
    window = cut_on(fit_cut(city, crossing, way), crossing, way)
    return window.stretch_whole(fit_stretch(window.left, stretch))


def lot_behind(city, crossing, way, lot):
    """The FULL LOT of the cut CITY that is behind lot, one of city."""
    plan = fit_cut(city, crossing, way)
    own = fit_full(plan, lot)
    return cut_on(plan, crossing, way).lot_left(own)


def fit_behind(city, crossing, way, lot):
    """The pair of what is left by a cut and of the FULL LOT lot of the cut CITY."""
    window = cut_on(fit_cut(city, crossing, way), crossing, way)
    return (window, fit_full(window.left, lot))


def stretches_ahead(window, lot, sign):
    """The RISES (sign 1), the SEAMS (sign -1) of a FULL LOT of the CITY left, as STRETCHES of the whole CITY."""
    return [window.stretch_whole(own) for own in Rows(window.left, lot).stretches_by(sign)]


def least_ahead(city, crossing, way, lot):
    """The FULL LOT of city without a gone SEAM behind which lot is: it has just the SEAMS of lot."""
    window, own = fit_behind(city, crossing, way, lot)
    return least_with_under(window.plan, stretches_ahead(window, own, -1))


def greatest_ahead(city, crossing, way, lot):
    """The FULL LOT of city without a gone RISE behind which lot is: it has just the RISES of lot."""
    window, own = fit_behind(city, crossing, way, lot)
    return greatest_with_above(window.plan, stretches_ahead(window, own, 1))


def lots_ahead(city, crossing, way, lot):
    """The ascending list of all FULL LOTS of city behind which lot is; TooMany() if those of city are not few."""
    window, own = fit_behind(city, crossing, way, lot)
    return [ahead for ahead in all_full(window.plan) if window.lot_left(ahead) == own]


def streets_behind(streets, many):
    """The streets with many added to each number."""
    return tuple([tuple([number + many for number in street]) for street in streets])


def beside_of(plan, other):
    """The CITY of the streets of both plans, those of other numbered behind those of plan."""
    return tuple([streets + streets_behind(more, plan.size)
                  for streets, more in zip(plan.streets, other.streets)])


def beside(city, other):
    """The CITY of the streets of city and of those of other."""
    plan = fit_plan(city)
    return beside_of(plan, fit_plan(other))


def roads_on(lot, many):
    """The ROADS of lot with many added to the number of each first crossing."""
    return tuple([(side, first + many, moves) for side, first, moves in lot])


def lot_of_both(city, other, lot, more):
    """The FULL LOT of beside(city, other) of lot, one of city, and more, one of other."""
    plan, plan_other = fit_plan(city), fit_plan(other)
    own = fit_full(plan, lot)
    return tuple(sorted(own + roads_on(fit_full(plan_other, more), plan.size)))


def lots_of_both(city, other, lot):
    """The pair of the FULL LOTS of city and of other that lot, one of beside(city, other), is put together of."""
    plan, plan_other = fit_plan(city), fit_plan(other)
    both = fit_full(Plan(beside_of(plan, plan_other)), lot)
    ahead = tuple([road for road in both if road[1] < plan.size])
    return (ahead, roads_on([road for road in both if road[1] >= plan.size], -plan.size))

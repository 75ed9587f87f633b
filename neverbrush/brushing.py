"""Roads that brush: where two of them meet, how many others a road brushes."""

from neverbrush.errors import CanNot
from neverbrush.fits import fit_plan, fit_road, fit_stretch, fit_word
from neverbrush.pieces import crossings_along, going_along, is_brushing, over_of
from neverbrush.pieces import runs_together, stretch_of_run, under_of, word_of_run
from neverbrush.plans import SIDES, WAYS, beginnings_on, side_behind
from neverbrush.routes import passes_of, turn_of, turning_once, ways_on, ways_to

BRUSHING = ("low", "high")


def fit_runs(city, road, other):
    """The common parts of two ROADS, with the passes of both."""
    plan = fit_plan(city)
    own = fit_road(plan, road)
    return runs_together(passes_of(plan, own), passes_of(plan, fit_road(plan, other)))


def common_parts(city, road, other):
    """The tuple of the common parts of road and other, in order."""
    return tuple([stretch_of_run(run) for run in fit_runs(city, road, other)])


def meetings(city, road, other):
    """The tuple of the pairs (stretch, word) of the common parts, in order."""
    return tuple([(stretch_of_run(run), word_of_run(run)) for run in fit_runs(city, road, other)])


def brushes(city, road, other):
    """The set of the pairs (stretch, word) along which road and other brush.

    Ways lead to greater crossings, so the meetings, one behind the other, ascend.
    """
    return tuple([pair for pair in meetings(city, road, other) if pair[1] in BRUSHING])


def do_brush(city, road, other):
    """Whether road and other brush."""
    plan = fit_plan(city)
    own = fit_road(plan, road)
    return is_brushing(passes_of(plan, own), passes_of(plan, fit_road(plan, other)))


def crosses(city, road, other):
    """The set of the STRETCHES along which road and other cross."""
    return tuple([stretch for stretch, word in meetings(city, road, other) if word == "cross"])


def passes_within(city, road, stretch):
    """The pair of the OVER-PIECES of stretch along which road goes low, the UNDER-PIECES along which high."""
    plan = fit_plan(city)
    rows = passes_of(plan, fit_road(plan, road))
    own = fit_stretch(plan, stretch)
    low = [part for part in over_of(plan, own) if going_along(rows, part) == "low"]
    high = [part for part in under_of(plan, own) if going_along(rows, part) == "high"]
    return (tuple(low), tuple(high))


def how_many_go(city, stretch, word):
    """How many ROADS go low, or high, along stretch."""
    plan = fit_plan(city)
    crossings = crossings_along(plan, fit_stretch(plan, stretch))
    fit_word(word, BRUSHING)
    side, way = ("W", "S") if word == "low" else ("N", "E")
    return ways_to(plan)[side][crossings[0]] * ways_on(plan)[way][crossings[-1]]


def brushed_by(city, road):
    """The pair of how many ROADS brush road, and along how many STRETCHES, taken together."""
    plan = fit_plan(city)
    rows = passes_of(plan, fit_road(plan, road))
    on = ways_on(plan)
    everyone = sum([on["E"][first] + on["S"][first] for _, first in beginnings_on(plan)])
    return (everyone - how_many_keep_off(plan, rows), how_often_brushed(rows, ways_to(plan), on))


def how_often_brushed(rows, to, on):
    """How many pairs of a ROAD and a STRETCH there are along which it and the ROAD with the passes rows brush.

    Others come to the beginning of such a STRETCH, and leave its end, as to and on, ways_to and ways_on, tell.
    """
    total = 0
    for side, way, other_side, other_way in (("W", "S", "N", "E"), ("N", "E", "W", "S")):
        come = 0
        for crossing, own_side, own_way in rows:
            if own_side == side:
                come += to[other_side][crossing]
            if own_way == way:
                total += come * on[other_way][crossing]
    return total


def how_many_keep_off(plan, rows):
    """How many ROADS do not brush the ROAD with these passes.

    Told from the last crossing back: loose, by side: in how many ways one who comes there from side, not
    together with the road, goes on and keeps off; bound, by mark: likewise together with it, mark the
    side from which one came when they came together, "" if they began together.
    """
    passed = {crossing: (side, way) for crossing, side, way in rows}
    loose = {side: [0] * plan.size for side in SIDES}
    bound = {mark: [0] * plan.size for mark in ("N", "W", "")}
    for crossing in reversed(range(plan.size)):
        if crossing in passed:
            side, way = passed[crossing]
            for mark in ("N", "W", ""):
                bound[mark][crossing] = keep_off_bound(plan, loose, bound, (crossing, mark, way))
            for own in SIDES:
                loose[own][crossing] = bound["" if own == side else own][crossing]
        else:
            many = sum([keep_off_behind(plan, loose, crossing, way) for way in WAYS])
            for own in SIDES:
                loose[own][crossing] = many
    return sum([loose[side][first] for side, first in beginnings_on(plan)])


def keep_off_behind(plan, loose, crossing, way):
    """In how many ways one who leaves crossing by way, not together with the road, keeps off it."""
    there = plan.nexts[way][crossing]
    return 1 if there is None else loose[side_behind(way)][there]


def keep_off_bound(plan, loose, bound, here):
    """In how many ways one who is together with the road goes on from here, (crossing, mark, way of the road)."""
    crossing, mark, own_way = here
    there = plan.nexts[own_way][crossing]
    total = 1 if there is None else bound[mark][there]
    other_way = "S" if own_way == "E" else "E"
    if (mark, other_way) not in (("N", "E"), ("W", "S")):
        total += keep_off_behind(plan, loose, crossing, other_way)
    return total


def how_many_brushes(city):
    """How many triples (road, other, stretch) there are, road going low, other high along stretch.

    Told crossing by crossing: how many pairs of ways to come to the ends of STRETCHES that end there.
    """
    plan = fit_plan(city)
    to, on = ways_to(plan), ways_on(plan)
    pairs, total = [0] * plan.size, 0
    for crossing in range(plan.size):
        pairs[crossing] += to["W"][crossing] * to["N"][crossing]
        for side in SIDES:
            there = plan.aheads[side][crossing]
            if there is not None:
                pairs[crossing] += pairs[there]
        total += pairs[crossing] * on["S"][crossing] * on["E"][crossing]
    return total


def some_brushing(city, road):
    """A ROAD that brushes road; CanNot() if there is none.

    Where road first turns another one goes through that turns the other way, and nowhere else.
    """
    plan = fit_plan(city)
    for crossing, side, way in passes_of(plan, fit_road(plan, road)):
        turn = turn_of(side, way)
        if turn != 0:
            return turning_once(plan, crossing, "N" if side == "W" else "W")
    raise CanNot()

"""STRETCHES on a plan, looked at already: their parts, how ROADS go along them, how two ROADS meet."""

from neverbrush.errors import TooMany
from neverbrush.plans import WAYS
from neverbrush.routes import MOST_LISTED


def crossings_along(plan, stretch):
    """The tuple of the crossings of stretch."""
    first, moves = stretch
    found = [first]
    for way in moves:
        found.append(plan.nexts[way][found[-1]])
    return tuple(found)


def parts_between(plan, stretch, come, gone):
    """The set of the parts of stretch that begin with it or are come to by one move, end or are left likewise.

    Ways lead to greater crossings, so the parts ascend as they are found.
    """
    crossings, moves = crossings_along(plan, stretch), stretch[1]
    last = len(moves)
    starts = [k for k in range(last + 1) if k == 0 or moves[k - 1] == come]
    stops = [k for k in range(last + 1) if k == last or moves[k] == gone]
    return tuple([(crossings[k], moves[k:n]) for k in starts for n in stops if k <= n])


def over_of(plan, stretch):
    """The set of the OVER-PIECES of stretch."""
    return parts_between(plan, stretch, "S", "E")


def under_of(plan, stretch):
    """The set of the UNDER-PIECES of stretch."""
    return parts_between(plan, stretch, "E", "S")


def has_part_over(plan, stretch, other):
    """Whether some OVER-PIECE of stretch is an UNDER-PIECE of other."""
    known = {own: True for own in under_of(plan, other)}
    return any([own in known for own in over_of(plan, stretch)])


def word_between(side, way):
    """How a ROAD goes along what it comes to from side and leaves by way."""
    if side == "W" and way == "S":
        return "low"
    if side == "N" and way == "E":
        return "high"
    return "across"


def going_along(passes, stretch):
    """How the ROAD with these passes goes along stretch; None if this is no part of it."""
    first, moves = stretch
    for k in range(len(passes)):
        if passes[k][0] == first:
            part = passes[k:k + len(moves) + 1]
            if "".join([own[2] for own in part[:-1]]) != moves:
                return None
            return word_between(part[0][1], part[-1][2])
    return None


def passes_by_word(passes, side, way):
    """The set of the STRETCHES to which the ROAD with these passes comes from side and which it leaves by way."""
    moves = "".join([own[2] for own in passes])
    starts = [k for k in range(len(passes)) if passes[k][1] == side]
    stops = [k for k in range(len(passes)) if passes[k][2] == way]
    return tuple([(passes[k][0], moves[k:n]) for k in starts for n in stops if k <= n])


def low_of(passes):
    """The set of the STRETCHES along which the ROAD with these passes goes low."""
    return passes_by_word(passes, "W", "S")


def high_of(passes):
    """The set of the STRETCHES along which the ROAD with these passes goes high."""
    return passes_by_word(passes, "N", "E")


def runs_together(passes, others):
    """The list of the common parts of two ROADS with these passes: each the list of the pairs of passes.

    They come to a crossing from one side either behind a move that they made together, or both by a
    beginning; so a new common part begins where the sides are unlike, or at a beginning.
    """
    places = {others[k][0]: k for k in range(len(others))}
    runs = []
    for k in range(len(passes)):
        own = passes[k]
        if own[0] in places:
            other = others[places[own[0]]]
            if k == 0 or own[1] != other[1]:
                runs.append([])
            runs[-1].append((own, other))
    return runs


def stretch_of_run(run):
    """The STRETCH of a common part."""
    return (run[0][0][0], "".join([own[2] for own, _ in run[:-1]]))


def word_of_run(run):
    """How the first of two ROADS goes along a common part, seen from the other one."""
    (own, other), (last, other_last) = run[0], run[-1]
    if own[1] == other[1] or last[2] == other_last[2]:
        return "along"
    word = word_between(own[1], last[2])
    return "cross" if word == "across" else word


def is_brushing(passes, others):
    """Whether two ROADS with these passes brush."""
    return any([word_of_run(run) in ("low", "high") for run in runs_together(passes, others)])


def tails_from(plan):
    """Crossing by crossing the ascending list of the moves of the STRETCHES that begin there."""
    tails = [[""] for _ in range(plan.size)]
    for crossing in reversed(range(plan.size)):
        for way in WAYS:
            there = plan.nexts[way][crossing]
            if there is not None:
                tails[crossing].extend([way + moves for moves in tails[there]])
    return tails


def many_from(plan):
    """Crossing by crossing how many STRETCHES begin there."""
    many = [1] * plan.size
    for crossing in reversed(range(plan.size)):
        for way in WAYS:
            there = plan.nexts[way][crossing]
            if there is not None:
                many[crossing] += many[there]
    return many


def check_few_stretches(plan):
    """TooMany() if there are more STRETCHES than are listed."""
    if sum(many_from(plan)) > MOST_LISTED:
        raise TooMany()


def all_stretches(plan):
    """The ascending list of all STRETCHES; TooMany() if there are more than are listed."""
    check_few_stretches(plan)
    tails = tails_from(plan)
    return [(first, moves) for first in range(plan.size) for moves in tails[first]]

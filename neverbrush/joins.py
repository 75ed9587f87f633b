"""Sets of STRETCHES, what their pieces make up one behind the other, and the FULL LOT that this tells."""

from neverbrush.errors import TooMany, Unfit
from neverbrush.fits import stretch_from
from neverbrush.kinds import as_row, is_rising
from neverbrush.pieces import crossings_along, over_of, under_of
from neverbrush.plans import WAYS, beginnings_on, straight_on
from neverbrush.routes import MOST_LISTED, is_turning


def stretches_from(plan, value):
    """The set of STRETCHES in tuples, None if value is none."""
    rows = as_row(value)
    if rows is None:
        return None
    found = [stretch_from(plan, own) for own in rows]
    if any([stretch is None for stretch in found]) or not is_rising(found):
        return None
    return tuple(found)


def fit_stretches(plan, value):
    """The set of STRETCHES value."""
    found = stretches_from(plan, value)
    if found is None:
        raise Unfit()
    return found


def over_pieces_of(plan, stretches):
    """A dict of True for each OVER-PIECE of one of stretches."""
    return {part: True for stretch in stretches for part in over_of(plan, stretch)}


def under_pieces_of(plan, stretches):
    """A dict of True for each UNDER-PIECE of one of stretches."""
    return {part: True for stretch in stretches for part in under_of(plan, stretch)}


def lot_under(plan, pieces):
    """The FULL LOT whose UNDER is what pieces, a dict of OVER-PIECES, make up one behind the other."""
    return lot_told(plan, pieces, ("E", "S"), ("N", "W"))


def lot_above(plan, pieces):
    """The FULL LOT whose ABOVE is what pieces, a dict of UNDER-PIECES, make up one behind the other."""
    return lot_told(plan, pieces, ("S", "E"), ("W", "N"))


def least_with_under(plan, stretches):
    """The least FULL LOT whose UNDER has all of stretches; if these fit, the one whose SEAMS they are."""
    return lot_under(plan, over_pieces_of(plan, stretches))


def greatest_with_above(plan, stretches):
    """The greatest FULL LOT whose ABOVE has all of stretches; if these fit, the one whose RISES they are."""
    return lot_above(plan, under_pieces_of(plan, stretches))


def lot_told(plan, pieces, ways, sides):
    """The FULL LOT of the bent ones of the ROADS that lead on a piece of a street.

    From this piece on such a ROAD goes, at each crossing, by the first of ways if the STRETCH from the piece
    up to here is made up of pieces, else by the second one; back from it, it comes by sides likewise.
    """
    on = [moves_on(plan, pieces, crossing, ways) for crossing in range(plan.size)]
    found = {(side, first, on[first]): True for side, first in beginnings_on(plan)}
    for crossing in range(plan.size):
        begun, first, moves = come_back(plan, pieces, crossing, sides)
        for way in WAYS:
            there = plan.nexts[way][crossing]
            found[(begun, first, moves + way + ("" if there is None else on[there]))] = True
    return tuple(sorted([road for road in found if is_turning(road)]))


def moves_on(plan, pieces, first, ways):
    """The moves of the ROADS that lead on a piece by which one comes to first, from first on."""
    along, moves, made, at = [], "", [], first
    while at is not None:
        along.append(at)
        made.append(is_made_behind(pieces, along, moves, made))
        way = ways[0] if made[-1] else ways[1]
        moves, at = moves + way, plan.nexts[way][at]
    return moves


def is_made_behind(pieces, along, moves, made):
    """Whether the STRETCH along crossings by moves is made up of pieces; made tells it of what begins likewise."""
    for k in range(len(along)):
        if (k == 0 or made[k - 1]) and (along[k], moves[k:]) in pieces:
            return True
    return False


def come_back(plan, pieces, last, sides):
    """What the ROADS that lead on a piece behind last are up to last: side, first crossing, moves."""
    moves, made, at = "", [], last
    while True:
        made.append(is_made_ahead(pieces, at, moves, made))
        side = sides[0] if made[-1] else sides[1]
        there = plan.aheads[side][at]
        if there is None:
            return (side, at, moves)
        moves, at = straight_on(side) + moves, there


def is_made_ahead(pieces, first, moves, made):
    """Whether the STRETCH from first by moves is made up of pieces.

    made tells it of what ends likewise, first of what has no moves.
    """
    length = len(moves)
    for k in range(length + 1):
        if (k == length or made[length - k - 1]) and (first, moves[:k]) in pieces:
            return True
    return False


def ends_marked(plan, stretch, stretches):
    """By the place where it begins on stretch, a dict of the places where a part of it ends.

    The parts are those that are OVER-PIECES of some of stretches.
    """
    place_of = {crossing: place for place, crossing in enumerate(crossings_along(plan, stretch))}
    ends = [{} for _ in place_of]
    for own in stretches:
        for start, stop in pieces_shared(plan, own, place_of, stretch[1]):
            ends[start][stop] = True
    return ends


def pieces_shared(plan, stretch, place_of, moves):
    """The list of the pairs of places where OVER-PIECES of stretch begin and end that are parts of another one.

    The places are those on the other one, told by crossing; moves are its moves.
    """
    found, starts, own = [], [], stretch[1]
    for k, crossing in enumerate(crossings_along(plan, stretch)):
        if crossing not in place_of:
            starts = []
            continue
        place = place_of[crossing]
        if k == 0 or place == 0 or own[k - 1] != moves[place - 1]:
            starts = []
        if k == 0 or own[k - 1] == "S":
            starts.append(place)
        if k == len(own) or own[k] == "E":
            found.extend([(start, place) for start in starts])
    return found


def parts_joined(plan, stretch, stretches):
    """A tuple of OVER-PIECES of some of stretches that make up stretch, one behind the other; None if none do."""
    along, moves = crossings_along(plan, stretch), stretch[1]
    ends = ends_marked(plan, stretch, stretches)
    made = [None] * len(along) + [()]
    for k in reversed(range(len(along))):
        stops = [stop for stop in ends[k] if made[stop + 1] is not None]
        if stops:
            stop = min(stops)
            made[k] = ((along[k], moves[k:stop]),) + made[stop + 1]
    return made[0]


def unjoined(plan, stretches):
    """Why a set of STRETCHES is not CLOSED, as why_not_closed tells it; None if it is.

    Each two members that a move joins make up a STRETCH that is cut at one of its moves: if all these
    are members, they are not many more than the members, else one that is none is soon found.
    """
    known = {stretch: True for stretch in stretches}
    tails = {first: [] for first, _ in stretches}
    for first, moves in stretches:
        tails[first].append(moves)
    for stretch in stretches:
        for part in over_of(plan, stretch):
            if part not in known:
                return (stretch, part)
    for first, moves in stretches:
        last = crossings_along(plan, (first, moves))[-1]
        for way in WAYS:
            there = plan.nexts[way][last]
            for more in tails.get(there, []):
                if (first, moves + way + more) not in known:
                    return ((first, moves), (there, more), (first, moves + way + more))
    return None


def closure_of(plan, stretches):
    """The set of all STRETCHES that OVER-PIECES of some of stretches make up; TooMany() if they are not few.

    Told from the last crossing back: tails are, by crossing, the moves of those that begin there.
    """
    heads = heads_of(plan, stretches)
    tails, many = [[] for _ in range(plan.size)], 0
    for first in reversed(range(plan.size)):
        found = {}
        for moves in heads[first]:
            found.update({own: True for own in longer_ones(plan, tails, (first, moves))})
            if many + len(found) > MOST_LISTED:
                raise TooMany()
        tails[first], many = sorted(list(found)), many + len(found)
    return tuple([(first, moves) for first in range(plan.size) for moves in tails[first]])


def heads_of(plan, stretches):
    """By crossing a dict of the moves of the OVER-PIECES of stretches; TooMany() if they are not few."""
    heads = [{} for _ in range(plan.size)]
    for stretch in stretches:
        for first, moves in over_of(plan, stretch):
            heads[first][moves] = True
        if sum([len(own) for own in heads]) > MOST_LISTED:
            raise TooMany()
    return heads


def longer_ones(plan, tails, stretch):
    """The moves of stretch, and of what goes along it, on by a move, and as tails tell it of what begins there."""
    last = crossings_along(plan, stretch)[-1]
    found = [stretch[1]]
    for way in WAYS:
        there = plan.nexts[way][last]
        if there is not None:
            found.extend([stretch[1] + way + moves for moves in tails[there]])
    return found

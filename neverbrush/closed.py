"""Closed sets: what a full lot has under it, what above it."""

from neverbrush.errors import CanNot
from neverbrush.fits import fit_plan, fit_stretch
from neverbrush.fulls import fit_full
from neverbrush.joins import closure_of, fit_stretches, lot_under, parts_joined, stretches_from
from neverbrush.joins import unjoined
from neverbrush.ladders import all_full
from neverbrush.pieces import all_stretches, crossings_along, high_of, low_of, over_of, under_of
from neverbrush.routes import passes_of
from neverbrush.unders import Levels

WORDS = ("under", "above")


def fit_levels(city, lot):
    """The Levels of the FULL LOT lot."""
    plan = fit_plan(city)
    return Levels(plan, fit_full(plan, lot))


def under(city, lot):
    """UNDER of lot; TooMany() if the STRETCHES are not few."""
    levels = fit_levels(city, lot)
    return tuple([stretch for stretch in all_stretches(levels.plan) if levels.has_under(stretch)])


def above(city, lot):
    """ABOVE of lot; TooMany() if the STRETCHES are not few."""
    levels = fit_levels(city, lot)
    return tuple([stretch for stretch in all_stretches(levels.plan) if levels.has_above(stretch)])


def is_under(city, lot, stretch):
    """Whether stretch is in UNDER of lot."""
    levels = fit_levels(city, lot)
    return levels.has_under(fit_stretch(levels.plan, stretch))


def is_above(city, lot, stretch):
    """Whether stretch is in ABOVE of lot."""
    levels = fit_levels(city, lot)
    return levels.has_above(fit_stretch(levels.plan, stretch))


def why_not_under(city, lot, stretch):
    """An OVER-PIECE of stretch and a ROAD of lot that goes low along it; CanNot() if there is none."""
    plan = fit_plan(city)
    own = fit_full(plan, lot)
    pieces = over_of(plan, fit_stretch(plan, stretch))
    return piece_and_road(pieces, [(road, low_of(passes_of(plan, road))) for road in own])


def why_not_above(city, lot, stretch):
    """An UNDER-PIECE of stretch and a ROAD of lot that goes high along it; CanNot() if there is none."""
    plan = fit_plan(city)
    own = fit_full(plan, lot)
    pieces = under_of(plan, fit_stretch(plan, stretch))
    return piece_and_road(pieces, [(road, high_of(passes_of(plan, road))) for road in own])


def piece_and_road(pieces, rows):
    """One of pieces and a ROAD that has it among its parts, as pairs (road, parts) tell; CanNot() if none has."""
    known = {part: True for part in pieces}
    for road, parts in rows:
        for part in parts:
            if part in known:
                return (part, road)
    raise CanNot()


def parting(city, lot, stretch):
    """The PARTING of stretch by lot.

    Told from the last crossing back: by place and word the pairs from there on, the first one with word.
    """
    levels = fit_levels(city, lot)
    own = fit_stretch(levels.plan, stretch)
    along = crossings_along(levels.plan, own)
    found = {(len(along), word): () for word in WORDS}
    for start in reversed(range(len(along))):
        for word in WORDS:
            stop = part_end(levels, found, (start, word), (along, own[1]))
            if stop is not None:
                rest = found[(stop + 1, other_word(word))]
                found[(start, word)] = ((word, (along[start], own[1][start:stop])),) + rest
    return found[(0, "under")] if (0, "under") in found else found[(0, "above")]


def other_word(word):
    """The word that stands beside word in a PARTING."""
    return "above" if word == "under" else "under"


def part_end(levels, found, begun, path):
    """The place where the part ends that begins at a place with a word, the pair begun; None if there is none.

    found tells what may follow behind it, path is the pair of the crossings and the moves.
    """
    start, word = begun
    along, moves = path
    for stop in range(start, len(along)):
        if stop == len(moves) or moves[stop] == ("S" if word == "under" else "E"):
            part = (along[start], moves[start:stop])
            is_in = levels.has_under(part) if word == "under" else levels.has_above(part)
            if is_in and (stop + 1, other_word(word)) in found:
                return stop
    return None


def is_closed(city, thing):
    """Whether thing is a CLOSED set of STRETCHES of city."""
    plan = fit_plan(city)
    found = stretches_from(plan, thing)
    return found is not None and found == thing and unjoined(plan, found) is None


def why_not_closed(city, stretches):
    """What lacks in stretches: a member and an OVER-PIECE, or two members and what they make up; CanNot() if none."""
    plan = fit_plan(city)
    why = unjoined(plan, fit_stretches(plan, stretches))
    if why is None:
        raise CanNot()
    return why


def closure(city, stretches):
    """The least CLOSED set that has all of stretches; TooMany() if its members are not few."""
    plan = fit_plan(city)
    return closure_of(plan, fit_stretches(plan, stretches))


def fit_joined(city, stretches, stretch):
    """The parts that make up stretch, OVER-PIECES of some of stretches; None if there are none."""
    plan = fit_plan(city)
    own = fit_stretches(plan, stretches)
    return parts_joined(plan, fit_stretch(plan, stretch), own)


def is_in_closure(city, stretches, stretch):
    """Whether stretch is in the least CLOSED set that has all of stretches."""
    return fit_joined(city, stretches, stretch) is not None


def how_joined(city, stretches, stretch):
    """The tuple of parts of stretch, OVER-PIECES of some of stretches, that make it up; CanNot() if there is none."""
    parts = fit_joined(city, stretches, stretch)
    if parts is None:
        raise CanNot()
    return parts


def lot_of_closed(city, stretches):
    """The FULL LOT whose UNDER is stretches; CanNot() if stretches is not CLOSED."""
    plan = fit_plan(city)
    own = fit_stretches(plan, stretches)
    if unjoined(plan, own) is not None:
        raise CanNot()
    return lot_under(plan, {stretch: True for stretch in own})


def closed_sets(city):
    """The ascending list of all CLOSED sets; TooMany() if they are not few.

    Each is UNDER of one FULL LOT, and each STRETCH is a SEAM of some, so the STRETCHES are few, too.
    """
    plan = fit_plan(city)
    lots = all_full(plan)
    known = all_stretches(plan)
    found = []
    for lot in lots:
        levels = Levels(plan, lot)
        found.append(tuple([stretch for stretch in known if levels.has_under(stretch)]))
    return sorted(found)

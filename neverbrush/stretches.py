"""Stretches of a city: told, listed, counted, parted; how roads go along them."""

from neverbrush.errors import CanNot
from neverbrush.fits import fit_crossing, fit_number, fit_plan, fit_road, fit_stretch, fit_table
from neverbrush.fits import fit_way, stretch_from
from neverbrush.pieces import all_stretches, crossings_along, going_along, has_part_over, high_of, low_of
from neverbrush.pieces import many_from, over_of, under_of
from neverbrush.plans import SIDES
from neverbrush.routes import passes_of


def is_stretch(city, thing):
    """Whether thing is a STRETCH of city."""
    stretch = stretch_from(fit_plan(city), thing)
    return stretch is not None and stretch == thing


def crossings_of(city, stretch):
    """The tuple of the crossings of stretch."""
    plan = fit_plan(city)
    return crossings_along(plan, fit_stretch(plan, stretch))


def sum_along(city, stretch, table):
    """The sum of table along stretch."""
    plan = fit_plan(city)
    own = fit_stretch(plan, stretch)
    numbers = fit_table(plan, table)
    return sum([numbers[crossing] for crossing in crossings_along(plan, own)])


def stretches(city):
    """The ascending list of all STRETCHES; TooMany() if there are more than are listed."""
    return all_stretches(fit_plan(city))


def how_many_stretches(city):
    """How many STRETCHES city has."""
    return sum(many_from(fit_plan(city)))


def how_many_with(city, crossing):
    """How many STRETCHES have this crossing."""
    plan = fit_plan(city)
    here = fit_crossing(plan, fit_number(crossing))
    many_to = [1] * plan.size
    for own in range(plan.size):
        for side in SIDES:
            there = plan.aheads[side][own]
            if there is not None:
                many_to[own] += many_to[there]
    return many_to[here] * many_from(plan)[here]


def over_pieces(city, stretch):
    """The set of the OVER-PIECES of stretch."""
    plan = fit_plan(city)
    return over_of(plan, fit_stretch(plan, stretch))


def under_pieces(city, stretch):
    """The set of the UNDER-PIECES of stretch."""
    plan = fit_plan(city)
    return under_of(plan, fit_stretch(plan, stretch))


def lies_over(city, stretch, other):
    """Whether some OVER-PIECE of stretch is an UNDER-PIECE of other."""
    plan = fit_plan(city)
    own = fit_stretch(plan, stretch)
    return has_part_over(plan, own, fit_stretch(plan, other))


def joined(city, stretch, way, other):
    """The STRETCH that goes along stretch, by way, along other; CanNot() if way does not lead there."""
    plan = fit_plan(city)
    own = fit_stretch(plan, stretch)
    fit_way(way)
    further = fit_stretch(plan, other)
    if plan.nexts[way][crossings_along(plan, own)[-1]] != further[0]:
        raise CanNot()
    return (own[0], own[1] + way + further[1])


def parted(city, stretch, number):
    """The pair of the STRETCHES ahead of and behind the move of this number; CanNot() if there is none."""
    plan = fit_plan(city)
    own = fit_stretch(plan, stretch)
    fit_number(number)
    first, moves = own
    if number < 0 or number >= len(moves):
        raise CanNot()
    there = crossings_along(plan, own)[number + 1]
    return ((first, moves[:number]), (there, moves[number + 1:]))


def goes(city, road, stretch):
    """How road goes along stretch: "low", "high", "across", or None if this is no part of it."""
    plan = fit_plan(city)
    own = fit_road(plan, road)
    return going_along(passes_of(plan, own), fit_stretch(plan, stretch))


def low_passes(city, road):
    """The set of the STRETCHES along which road goes low."""
    plan = fit_plan(city)
    return low_of(passes_of(plan, fit_road(plan, road)))


def high_passes(city, road):
    """The set of the STRETCHES along which road goes high."""
    plan = fit_plan(city)
    return high_of(passes_of(plan, fit_road(plan, road)))

"""Seams and rises of full lots; sets of stretches none of which lies over another one."""

from neverbrush.errors import CanNot
from neverbrush.fits import fit_plan, fit_stretch
from neverbrush.fulls import fit_full, fit_two_full
from neverbrush.joins import fit_stretches, greatest_with_above, least_with_under, over_pieces_of, stretches_from
from neverbrush.joins import under_pieces_of
from neverbrush.ladders import all_full
from neverbrush.overs import Path, is_fit, pair_over, parts_over
from neverbrush.pieces import all_stretches, over_of, under_of
from neverbrush.rows import Rows, fit_rows

MOST_IN_RING = 2000


def seams(city, lot):
    """SEAMS of lot."""
    return fit_rows(city, lot).stretches_by(-1)


def rises(city, lot):
    """RISES of lot."""
    return fit_rows(city, lot).stretches_by(1)


def is_fitting(city, thing):
    """Whether thing is a set of STRETCHES of city that fits."""
    plan = fit_plan(city)
    found = stretches_from(plan, thing)
    return found is not None and found == thing and is_fit(plan, found)


def unfit_pair(city, stretches):
    """The least pair of unlike members the first of which lies over the second; CanNot() if stretches fits."""
    plan = fit_plan(city)
    pair = pair_over(plan, fit_stretches(plan, stretches))
    if pair is None:
        raise CanNot()
    return pair


def why_over(city, stretch, other):
    """The set of the STRETCHES that are OVER-PIECES of stretch and UNDER-PIECES of other."""
    plan = fit_plan(city)
    path = Path(plan, fit_stretch(plan, stretch))
    return parts_over(path, Path(plan, fit_stretch(plan, other)))


def fit_fitting(plan, value):
    """The set of STRETCHES value; CanNot() if it does not fit."""
    own = fit_stretches(plan, value)
    if not is_fit(plan, own):
        raise CanNot()
    return own


def ones_joining(plan, stretches):
    """The list of the STRETCHES each of which alone may be put to stretches, which fit; TooMany() as may_join."""
    overs, unders = over_pieces_of(plan, stretches), under_pieces_of(plan, stretches)
    found = []
    for stretch in all_stretches(plan):
        is_over = any([part in unders for part in over_of(plan, stretch)])
        if not is_over and not any([part in overs for part in under_of(plan, stretch)]):
            found.append(stretch)
    return found


def may_join(city, stretches):
    """The set of the STRETCHES each of which alone may be put to stretches; TooMany() if STRETCHES are not few."""
    plan = fit_plan(city)
    return tuple(ones_joining(plan, fit_fitting(plan, stretches)))


def lot_of_seams(city, stretches):
    """The FULL LOT whose SEAMS stretches is; CanNot() if it does not fit."""
    plan = fit_plan(city)
    return least_with_under(plan, fit_fitting(plan, stretches))


def lot_of_rises(city, stretches):
    """The FULL LOT whose RISES stretches is; CanNot() if it does not fit."""
    plan = fit_plan(city)
    return greatest_with_above(plan, fit_fitting(plan, stretches))


def next_on(plan, lot):
    """The FULL LOT whose SEAMS are the RISES of lot."""
    return least_with_under(plan, Rows(plan, lot).stretches_by(1))


def sent_on(city, lot):
    """The FULL LOT whose SEAMS are the RISES of lot."""
    plan = fit_plan(city)
    return next_on(plan, fit_full(plan, lot))


def sent_back(city, lot):
    """The FULL LOT whose RISES are the SEAMS of lot."""
    rows = fit_rows(city, lot)
    return greatest_with_above(rows.plan, rows.stretches_by(-1))


def ring_of(city, lot):
    """The list of lot and of what it is sent on to, one behind the other, up to the one sent on to lot.

    Of a longer ring than those that are specified it is the beginning.
    """
    plan = fit_plan(city)
    own = fit_full(plan, lot)
    found, at = [own], next_on(plan, own)
    while at != own and len(found) < MOST_IN_RING:
        found.append(at)
        at = next_on(plan, at)
    return found


def times_sent(city, lot, other):
    """How many times lot must be sent on until it is other; CanNot() if it never is."""
    plan, own, there = fit_two_full(city, lot, other)
    times, at = 0, own
    while at != there:
        times, at = times + 1, next_on(plan, at)
        if at == own or times > MOST_IN_RING:
            raise CanNot()
    return times


def fitting_sets(city):
    """The ascending list of all sets of STRETCHES that fit; TooMany() if they are not few."""
    plan = fit_plan(city)
    return sorted([Rows(plan, lot).stretches_by(-1) for lot in all_full(plan)])

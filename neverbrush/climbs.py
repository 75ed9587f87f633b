"""Climbs: full lots led up and down, which lies below which, meet and join."""

from neverbrush.errors import Broken, CanNot, NoStretch, Unfit
from neverbrush.fits import fit_plan, fit_stretch, stretch_from
from neverbrush.fulls import fit_full, fit_two_full, hooks_of
from neverbrush.joins import greatest_with_above, least_with_under
from neverbrush.kinds import as_row, is_just
from neverbrush.ladders import ladder_of, lengths_from, longest_from
from neverbrush.overs import Path, parts_over, ring_over
from neverbrush.pieces import all_stretches, check_few_stretches
from neverbrush.rows import Rows
from neverbrush.unders import Levels


def led_on(plan, lot, form):
    """The FULL LOT to which lot is led if form, a pair (stretch, sign), is one of its FORMS, else None."""
    rows = Rows(plan, lot)
    return rows.exchanged(rows.forms.index(form)) if form in rows.forms else None


def led_by_sign(city, lot, stretch, sign):
    """The FULL LOT to which lot is led by the FORM (stretch, sign); NoStretch(stretch) if it has none such."""
    plan = fit_plan(city)
    own = fit_full(plan, lot)
    step = fit_stretch(plan, stretch)
    there = led_on(plan, own, (step, sign))
    if there is None:
        raise NoStretch(step)
    return there


def led_up(city, lot, stretch):
    """The FULL LOT to which lot is led up by stretch."""
    return led_by_sign(city, lot, stretch, 1)


def led_down(city, lot, stretch):
    """The FULL LOT to which lot is led down by stretch."""
    return led_by_sign(city, lot, stretch, -1)


def climbed(city, lot, climb):
    """The FULL LOT to which climb leads from lot; Broken(number) for the first STRETCH that is no RISE then."""
    plan = fit_plan(city)
    at = fit_full(plan, lot)
    steps = as_row(climb)
    if steps is None:
        raise Unfit()
    for number, step in enumerate([fit_stretch(plan, own) for own in steps]):
        there = led_on(plan, at, (step, 1))
        if there is None:
            raise Broken(number)
        at = there
    return at


def seams_not_under(plan, lot, other):
    """The list of the SEAMS of lot that are not in UNDER of other: lot is other or lies below it if there are none."""
    levels = Levels(plan, other)
    return [stretch for stretch in Rows(plan, lot).stretches_by(-1) if not levels.has_under(stretch)]


def is_below(city, lot, other):
    """Whether lot lies below other."""
    plan, own, there = fit_two_full(city, lot, other)
    return own != there and not seams_not_under(plan, own, there)


def why_not_below(city, lot, other):
    """One of the SEAMS of lot that is not in UNDER of other; CanNot() if there is none."""
    plan, own, there = fit_two_full(city, lot, other)
    found = seams_not_under(plan, own, there)
    if not found:
        raise CanNot()
    return found[0]


def is_why_not_below(city, lot, other, thing):
    """Whether thing is one of the SEAMS of lot that is not in UNDER of other."""
    plan, own, there = fit_two_full(city, lot, other)
    return any([is_just(thing, stretch) for stretch in seams_not_under(plan, own, there)])


def climb_between(plan, lot, other):
    """A CLIMB from lot that leads to other; None if there is none.

    A LOT that lies below other is led up within what lies below it by each RISE that is in UNDER of other.
    """
    if seams_not_under(plan, lot, other):
        return None
    levels, steps, at = Levels(plan, other), [], lot
    while at != other:
        rows = Rows(plan, at)
        step = [own for own in rows.stretches_by(1) if levels.has_under(own)][0]
        steps.append(step)
        at = rows.exchanged(rows.forms.index((step, 1)))
    return tuple(steps)


def climb(city, lot, other):
    """A CLIMB from lot that leads to other; CanNot() if there is none, ahead TooMany() if STRETCHES are not few."""
    plan, own, there = fit_two_full(city, lot, other)
    check_few_stretches(plan)
    steps = climb_between(plan, own, there)
    if steps is None:
        raise CanNot()
    return steps


def leads_to(plan, lot, other, thing):
    """Whether thing is a CLIMB from lot that leads to other."""
    if not isinstance(thing, tuple):
        return False
    at = lot
    for own in thing:
        step = stretch_from(plan, own)
        if step is None or step != own:
            return False
        at = led_on(plan, at, (step, 1))
        if at is None:
            return False
    return at == other


def is_climb(city, lot, other, thing):
    """Whether thing is a CLIMB from lot that leads to other."""
    plan, own, there = fit_two_full(city, lot, other)
    return leads_to(plan, own, there, thing)


def meet(city, lot, other):
    """The greatest FULL LOT that is or lies below lot, and is or lies below other; TooMany() as told.

    Its ABOVE is the least set that is made up of UNDER-PIECES, one behind the other, and has both ABOVE.
    """
    plan, own, there = fit_two_full(city, lot, other)
    check_few_stretches(plan)
    return greatest_with_above(plan, both_by(plan, own, there, 1))


def join(city, lot, other):
    """The least FULL LOT that is or lies above lot, and is or lies above other; TooMany() as told."""
    plan, own, there = fit_two_full(city, lot, other)
    check_few_stretches(plan)
    return least_with_under(plan, both_by(plan, own, there, -1))


def both_by(plan, lot, other, sign):
    """The RISES (sign 1), the SEAMS (sign -1) of both FULL LOTS, one behind the other."""
    return Rows(plan, lot).stretches_by(sign) + Rows(plan, other).stretches_by(sign)


def over_ring(city):
    """An over ring; CanNot() if there is none, ahead TooMany() if STRETCHES are not few."""
    plan = fit_plan(city)
    found = ring_over(plan, all_stretches(plan))
    if found is None:
        raise CanNot()
    return found


def is_over_ring(city, thing):
    """Whether thing is an over ring."""
    plan = fit_plan(city)
    rows = as_row(thing)
    if rows is None or len(rows) < 2:
        return False
    found = [stretch_from(plan, own) for own in rows]
    if any([stretch is None for stretch in found]) or tuple(found) != thing:
        return False
    if len({stretch: True for stretch in found}) < len(found):
        return False
    paths = [Path(plan, stretch) for stretch in found]
    return all([len(parts_over(paths[k - 1], paths[k])) > 0 for k in range(len(paths))])


def climb_lengths(city, lot, other):
    """The pair of the fewest and of the most steps of CLIMBS from lot to other; CanNot() if there is none.

    TooMany() ahead of it if the FULL LOTS are not few.
    """
    plan, own, there = fit_two_full(city, lot, other)
    lengths = lengths_from(ladder_of(plan), own)
    if there not in lengths:
        raise CanNot()
    return lengths[there]


def longest_climb(city):
    """A CLIMB with the most steps from the least to the greatest FULL LOT; TooMany() if they are not few."""
    plan = fit_plan(city)
    return longest_from(ladder_of(plan), hooks_of(plan, "S"))

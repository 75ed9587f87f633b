"""CLAIMS: read, and for each kind a class that tells whether it stands, papers against it, reasons for it.

Papers are asked for only where a CLAIM does not stand, reasons only where it does.
"""

from neverbrush.climbs import climb_between, leads_to, seams_not_under
from neverbrush.fits import road_from, stretch_from, table_from
from neverbrush.flows import bag_of
from neverbrush.forms import counts_of
from neverbrush.fulls import finished_from, full_from, inner_of, lot_from
from neverbrush.joins import least_with_under, over_pieces_of, stretches_from, unjoined
from neverbrush.kinds import as_row, is_just
from neverbrush.lots import barred_on
from neverbrush.overs import Path, is_fit, pair_over, parts_over
from neverbrush.pieces import check_few_stretches, crossings_along
from neverbrush.plans import Plan, city_from
from neverbrush.routes import is_turning
from neverbrush.rows import Rows
from neverbrush.unders import Levels


class FullClaim:
    """lot is FULL."""

    def __init__(self, plan, lot):
        self.plan = plan
        self.lot = lot

    def stands(self):
        """Whether it stands."""
        return len(self.lot) == self.plan.size

    def paper(self):
        """A bent ROAD that can be put to lot."""
        more = finished_from(self.plan, inner_of(self.plan, self.lot), 1)
        return [road for road in more if road not in self.lot][0]

    def is_paper(self, thing):
        """Whether thing is a bent ROAD, none of lot, that brushes none of it."""
        road = road_from(self.plan, thing)
        if road is None or road != thing or not is_turning(road) or road in self.lot:
            return False
        return not barred_on(self.plan, self.lot, road)

    def reason(self):
        """The FORMS of lot."""
        return Rows(self.plan, self.lot).forms

    def is_reason(self, thing):
        """Whether thing is the FORMS of lot."""
        return is_just(thing, self.reason())


class InClaim:
    """The BAG of table has ROADS of lot, a FULL LOT, alone."""

    def __init__(self, plan, lot, table):
        self.plan = plan
        self.table = table
        self.counts = list(zip(lot, counts_of(Rows(plan, lot), table)))

    def stands(self):
        """Whether it stands."""
        return not self.papers()

    def papers(self):
        """The list of the pairs (road, count) of the ROADS of lot whose count is below 0."""
        return [(road, count) for road, count in self.counts if count < 0]

    def paper(self):
        """A ROAD of lot whose count is below 0, and the count."""
        return self.papers()[0]

    def is_paper(self, thing):
        """Whether thing is a ROAD of lot whose count is below 0, and the count."""
        return any([is_just(thing, own) for own in self.papers()])

    def reason(self):
        """The BAG of table."""
        return bag_of(self.plan, self.table)

    def is_reason(self, thing):
        """Whether thing is the BAG of table."""
        return is_just(thing, self.reason())


class ExchangeClaim:
    """lot, a FULL LOT, with newcomer in the place of road, one of its ROADS, is FULL, and newcomer is not road."""

    def __init__(self, plan, lot, road, newcomer):
        self.rows = Rows(plan, lot)
        self.number = lot.index(road)
        self.come = newcomer

    def stands(self):
        """Whether it stands."""
        return self.rows.newcomer(self.number) == self.come

    def papers(self):
        """The list of the ROADS of lot that newcomer is, or that are not road and brush it."""
        lot = self.rows.lot
        barred = barred_on(self.rows.plan, lot, self.come)
        return [own for own in lot if own == self.come or (own != lot[self.number] and own in barred)]

    def paper(self):
        """A ROAD that bars newcomer."""
        return self.papers()[0]

    def is_paper(self, thing):
        """Whether thing is a ROAD that bars newcomer."""
        return any([is_just(thing, own) for own in self.papers()])

    def reason(self):
        """The FORM of road in lot."""
        return self.rows.forms[self.number]

    def is_reason(self, thing):
        """Whether thing is the FORM of road in lot."""
        return is_just(thing, self.reason())


class BelowClaim:
    """UNDER of lot lies in UNDER of other, or is it; both are FULL LOTS."""

    def __init__(self, plan, lot, other):
        self.plan = plan
        self.lot = lot
        self.other = other

    def stands(self):
        """Whether it stands."""
        return not seams_not_under(self.plan, self.lot, self.other)

    def paper(self):
        """One of the SEAMS of lot, which are in its UNDER, that is not in UNDER of other."""
        return seams_not_under(self.plan, self.lot, self.other)[0]

    def is_paper(self, thing):
        """Whether thing is a STRETCH in UNDER of lot, not in that of other."""
        stretch = stretch_from(self.plan, thing)
        if stretch is None or stretch != thing or not Levels(self.plan, self.lot).has_under(stretch):
            return False
        return not Levels(self.plan, self.other).has_under(stretch)

    def reason(self):
        """A CLIMB from lot to other."""
        return climb_between(self.plan, self.lot, self.other)

    def is_reason(self, thing):
        """Whether thing is a CLIMB from lot to other."""
        return leads_to(self.plan, self.lot, self.other, thing)


class FitsClaim:
    """stretches fit."""

    def __init__(self, plan, stretches):
        self.plan = plan
        self.stretches = stretches

    def stands(self):
        """Whether it stands."""
        return is_fit(self.plan, self.stretches)

    def paper(self):
        """The least pair of unlike members the first of which lies over the second."""
        return pair_over(self.plan, self.stretches)

    def is_paper(self, thing):
        """Whether thing is a pair of unlike members the first of which lies over the second."""
        if not isinstance(thing, tuple) or len(thing) != 2:
            return False
        one, other = [stretch_from(self.plan, own) for own in thing]
        if one == other or one not in self.stretches or other not in self.stretches or (one, other) != thing:
            return False
        return len(parts_over(Path(self.plan, one), Path(self.plan, other))) > 0

    def reason(self):
        """The FULL LOT with these SEAMS."""
        return least_with_under(self.plan, self.stretches)

    def is_reason(self, thing):
        """Whether thing is the FULL LOT with these SEAMS."""
        return is_just(thing, self.reason())


class ClosedClaim:
    """stretches are CLOSED."""

    def __init__(self, plan, stretches):
        self.plan = plan
        self.stretches = stretches

    def stands(self):
        """Whether it stands."""
        return unjoined(self.plan, self.stretches) is None

    def paper(self):
        """A STRETCH that lacks."""
        return unjoined(self.plan, self.stretches)[-1]

    def is_paper(self, thing):
        """Whether thing is a STRETCH that lacks."""
        stretch = stretch_from(self.plan, thing)
        if stretch is None or stretch != thing or stretch in self.stretches:
            return False
        return stretch in over_pieces_of(self.plan, self.stretches) or self.is_joined(stretch)

    def is_joined(self, stretch):
        """Whether some move of stretch joins two members of which it is made up."""
        first, moves = stretch
        known = {own: True for own in self.stretches}
        along = crossings_along(self.plan, stretch)
        return any([(first, moves[:k]) in known and (along[k + 1], moves[k + 1:]) in known
                    for k in range(len(moves))])

    def reason(self):
        """The FULL LOT with this UNDER."""
        return least_with_under(self.plan, self.stretches)

    def is_reason(self, thing):
        """Whether thing is the FULL LOT with this UNDER."""
        return is_just(thing, self.reason())


def bent_from(plan, value):
    """The bent ROAD in a tuple, None if value is none."""
    road = road_from(plan, value)
    return road if road is not None and is_turning(road) else None


def values_from(plan, word, rows):
    """The tuple of what stands in a CLAIM behind its CITY, in tuples; with None for what is not as told."""
    if word == "full" and len(rows) == 1:
        return (lot_from(plan, rows[0]),)
    if word == "in" and len(rows) == 2:
        return (full_from(plan, rows[0]), table_from(plan, rows[1]))
    if word == "exchange" and len(rows) == 3:
        lot, road = full_from(plan, rows[0]), bent_from(plan, rows[1])
        return (lot, road if lot is not None and road in lot else None, bent_from(plan, rows[2]))
    if word == "below" and len(rows) == 2:
        return (full_from(plan, rows[0]), full_from(plan, rows[1]))
    if word in ("fits", "closed") and len(rows) == 1:
        return (stretches_from(plan, rows[0]),)
    return (None,)


def claim_from(value):
    """The CLAIM in tuples, None if value is none."""
    rows = as_row(value)
    if rows is None or len(rows) < 3:
        return None
    city = city_from(rows[1])
    if city is None:
        return None
    values = values_from(Plan(city), rows[0], rows[2:])
    return None if any([own is None for own in values]) else (rows[0], city) + values


def judged(claim):
    """What judges claim, a CLAIM in tuples; TooMany() if it speaks of STRETCHES, and these are not few."""
    word, plan = claim[0], Plan(claim[1])
    if word == "full":
        return FullClaim(plan, claim[2])
    if word == "in":
        return InClaim(plan, claim[2], claim[3])
    if word == "exchange":
        return ExchangeClaim(plan, claim[2], claim[3], claim[4])
    check_few_stretches(plan)
    if word == "below":
        return BelowClaim(plan, claim[2], claim[3])
    return FitsClaim(plan, claim[2]) if word == "fits" else ClosedClaim(plan, claim[2])

"""The ROADS of a FULL LOT in their rows, and what is told by them: FORMS and EXCHANGES.

On each piece of a street a FULL LOT's ROADS stand in a row: those from W ahead of those from N, and the
first ones of a crossing's row go E. One ROAD leads on a piece: the last of the row on a piece of an east
street, the first of it on a piece of a south street. Each ROAD leads on just two pieces, and its STRETCH is
what lies between them. The newcomer comes to this STRETCH, and goes on behind it, by the other pieces, as
the ROADS do that lead there, or straight where no ROAD goes.
"""

from neverbrush.fits import fit_plan
from neverbrush.fulls import fit_full, with_other
from neverbrush.plans import SIDES, WAYS, side_behind
from neverbrush.routes import come_straight, gone_straight


class Rows:
    """A FULL LOT of plan, its ROADS told by their numbers; forms are its FORMS."""

    def __init__(self, plan, lot):
        self.plan = plan
        self.lot = lot
        self.coming = {side: [None] * plan.size for side in SIDES}
        self.going = {way: [None] * plan.size for way in WAYS}
        self.along = [[] for _ in lot]
        self.pieces = [[] for _ in lot]
        self.line_up()
        self.forms = tuple([self.form(number) for number in range(len(lot))])

    def line_up(self):
        """Walks through the city: along are the crossings of each ROAD, pieces the two on which it leads.

        The piece by which a ROAD comes to its crossing k has the number k, in coming and going stands who
        leads on the piece. ROADS that begin together ascend by their moves, and so they stand in a row.
        """
        rows = {side: [[] for _ in range(self.plan.size)] for side in SIDES}
        for number, (side, first, _) in enumerate(self.lot):
            rows[side][first].append(number)
        for crossing in range(self.plan.size):
            for side in SIDES:
                if self.plan.aheads[side][crossing] is None:
                    self.coming[side][crossing] = self.lead(side == "W", rows[side][crossing])
            gone = {way: [] for way in WAYS}
            for number in rows["W"][crossing] + rows["N"][crossing]:
                gone[self.lot[number][2][len(self.along[number])]].append(number)
                self.along[number].append(crossing)
            for way in WAYS:
                leader = self.lead(way == "E", gone[way])
                self.going[way][crossing] = leader
                there = self.plan.nexts[way][crossing]
                if there is not None:
                    self.coming[side_behind(way)][there] = leader
                    rows[side_behind(way)][there] = gone[way]

    def lead(self, is_east, row):
        """The one of a row that leads on its piece, which is noted; None if there is none."""
        if not row:
            return None
        leader = row[-1] if is_east else row[0]
        self.pieces[leader].append(len(self.along[leader]))
        return leader

    def form(self, number):
        """The FORM of a ROAD."""
        start, stop = self.pieces[number]
        side, _, moves = self.lot[number]
        come = side if start == 0 else side_behind(moves[start - 1])
        return ((self.along[number][start], moves[start:stop - 1]), 1 if come == "W" else -1)

    def newcomer(self, number):
        """The newcomer for a ROAD."""
        start, stop = self.pieces[number]
        stretch, sign = self.forms[number]
        last = self.along[number][stop - 1]
        side, way = ("N", "E") if sign == 1 else ("W", "S")
        begun, first, moves = self.come_to(side, stretch[0])
        return (begun, first, moves + stretch[1] + self.gone_from(way, last))

    def come_to(self, side, crossing):
        """What the ROAD that leads on this piece is up to crossing: side, first crossing, moves."""
        leader = self.coming[side][crossing]
        if leader is None:
            first, moves = come_straight(self.plan, side, crossing)
            return (side, first, moves)
        begun, first, moves = self.lot[leader]
        return (begun, first, moves[:self.along[leader].index(crossing)])

    def gone_from(self, way, crossing):
        """The moves of the ROAD that leads on this piece, from crossing on."""
        leader = self.going[way][crossing]
        if leader is None:
            return gone_straight(self.plan, way, crossing)
        return self.lot[leader][2][self.along[leader].index(crossing):]

    def exchange(self, number):
        """The EXCHANGE of a ROAD."""
        stretch, sign = self.forms[number]
        road, other = self.lot[number], self.newcomer(number)
        return (road, other, stretch) if sign == 1 else (other, road, stretch)

    def exchanged(self, number):
        """The FULL LOT with the newcomer in the place of a ROAD."""
        return with_other(self.lot, self.lot[number], self.newcomer(number))

    def stretches_by(self, sign):
        """The set of the STRETCHES of the low ROADS (sign 1), of the high ones (sign -1)."""
        return tuple(sorted([stretch for stretch, own in self.forms if own == sign]))


def fit_rows(city, lot):
    """The rows of the FULL LOT lot of the CITY city."""
    plan = fit_plan(city)
    return Rows(plan, fit_full(plan, lot))

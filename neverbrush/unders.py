"""UNDER and ABOVE of a FULL LOT, told by the TURNS of its ROADS added up.

A STRETCH is in UNDER exactly if the sums along all its OVER-PIECES are below 0, in ABOVE exactly if those
along all its UNDER-PIECES are above 0.
"""

from neverbrush.fulls import inner_of
from neverbrush.pieces import crossings_along


def are_below(numbers, moves, come, gone):
    """Whether numbers, one for each crossing of a STRETCH with these moves, sum up to less than 0 along its pieces.

    These are the parts that begin with it or are come to by come, and end with it or are left by gone.
    """
    level, least, last = 0, 0, len(moves)
    for k in range(last + 1):
        if k > 0 and moves[k - 1] == come:
            least = min(least, level)
        level += numbers[k]
        if (k == last or moves[k] == gone) and level >= least:
            return False
    return True


class Levels:
    """The TURNS of a FULL LOT's ROADS added up, on plan: they tell what is in UNDER, what in ABOVE."""

    def __init__(self, plan, lot):
        self.plan = plan
        self.table = inner_of(plan, lot)

    def has_under(self, stretch):
        """Whether stretch is in UNDER."""
        numbers = [self.table[crossing] for crossing in crossings_along(self.plan, stretch)]
        return are_below(numbers, stretch[1], "S", "E")

    def has_above(self, stretch):
        """Whether stretch is in ABOVE."""
        numbers = [-self.table[crossing] for crossing in crossings_along(self.plan, stretch)]
        return are_below(numbers, stretch[1], "E", "S")

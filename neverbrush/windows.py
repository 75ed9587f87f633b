"""What is left of a CITY when crossings are left out, or when a street is parted at one place."""

from neverbrush.pieces import crossings_along
from neverbrush.plans import Plan, WAYS, streets_by
from neverbrush.routes import is_turning, passes_of


class Window:
    """The crossings kept of plan, an ascending tuple, numbered anew; left is the plan of the CITY of these.

    parted is the pair (crossing, way) of the move that is no longer within the city, None if there is none.
    """

    def __init__(self, plan, kept, parted):
        self.plan = plan
        self.kept = kept
        self.parted = parted
        self.numbers = {crossing: number for number, crossing in enumerate(kept)}
        self.left = Plan(tuple([streets_by(self.nexts_by(way)) for way in WAYS]))

    def nexts_by(self, way):
        """The list of the next ones by way in the CITY left, in its own numbers."""
        there = [None] * len(self.kept)
        for number, crossing in enumerate(self.kept):
            if (crossing, way) != self.parted:
                there[number] = self.numbers.get(self.plan.nexts[way][crossing])
        return there

    def parts_of(self, road):
        """The list of the parts of road that are left, one behind the other: ROADS of the CITY left."""
        found, is_begun = [], False
        for crossing, side, way in passes_of(self.plan, road):
            if crossing not in self.numbers:
                is_begun = False
                continue
            begun = found.pop() if is_begun else (side, self.numbers[crossing], "")
            found.append((begun[0], begun[1], begun[2] + way))
            is_begun = (crossing, way) != self.parted
        return found

    def bent_parts(self, road):
        """The list of the bent parts of road that are left."""
        return [part for part in self.parts_of(road) if is_turning(part)]

    def lot_left(self, lot):
        """The set of the bent parts of the ROADS of lot."""
        return tuple(sorted(list({part: True for road in lot for part in self.bent_parts(road)})))

    def is_gone(self, stretch):
        """Whether stretch, one of the whole CITY, has a crossing or a move that is not left."""
        along = crossings_along(self.plan, stretch)
        if any([crossing not in self.numbers for crossing in along]):
            return True
        return any([(along[k], way) == self.parted for k, way in enumerate(stretch[1])])

    def stretch_whole(self, stretch):
        """The STRETCH of the whole CITY that one of the CITY left was."""
        return (self.kept[stretch[0]], stretch[1])

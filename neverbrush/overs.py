"""Which STRETCHES lie over which, and sets none of which lies over another one."""

from neverbrush.pieces import crossings_along, over_of, under_of


class Path:
    """A STRETCH of plan with its crossings, along, and the place of each of them."""

    def __init__(self, plan, stretch):
        self.stretch = stretch
        self.moves = stretch[1]
        self.along = crossings_along(plan, stretch)
        self.places = {crossing: place for place, crossing in enumerate(self.along)}

    def is_reached_by(self, place, way):
        """Whether the STRETCH begins at place, or comes to it by way."""
        return place == 0 or self.moves[place - 1] == way

    def is_left_by(self, place, way):
        """Whether the STRETCH ends at place, or leaves it by way."""
        return place == len(self.moves) or self.moves[place] == way


def parts_over(path, other):
    """The set of the STRETCHES that are OVER-PIECES of that of path and UNDER-PIECES of that of other.

    Such a one is no part of a longer part of both: ahead of it the one has S, the other E, and behind it
    the one has E, the other S, if they have a move there at all.
    """
    found, start = [], None
    for k, crossing in enumerate(path.along):
        if crossing not in other.places:
            start = None
            continue
        place = other.places[crossing]
        if k == 0 or place == 0 or path.moves[k - 1] != other.moves[place - 1]:
            start = k if path.is_reached_by(k, "S") and other.is_reached_by(place, "E") else None
        if start is not None and path.is_left_by(k, "E") and other.is_left_by(place, "S"):
            found.append((path.along[start], path.moves[start:k]))
    return tuple(found)


def pair_over(plan, stretches):
    """The least pair of unlike members of a set such that the first lies over the second; None if it fits.

    No set that fits has more members than the city has crossings, so the first of the pair is soon found.
    """
    paths = [Path(plan, stretch) for stretch in stretches]
    for k in range(len(paths)):
        for n in range(len(paths)):
            if k != n and parts_over(paths[k], paths[n]):
                return (stretches[k], stretches[n])
    return None


def is_fit(plan, stretches):
    """Whether a set of STRETCHES fits."""
    return len(stretches) <= plan.size and pair_over(plan, stretches) is None


def ones_under(plan, stretches):
    """By number of a STRETCH the list of the numbers of the others over which it lies."""
    known = {}
    for k in range(len(stretches)):
        for part in under_of(plan, stretches[k]):
            known.setdefault(part, []).append(k)
    found = []
    for k in range(len(stretches)):
        own = {}
        for part in over_of(plan, stretches[k]):
            own.update({n: True for n in known.get(part, []) if n != k})
        found.append(sorted(list(own)))
    return found


def ways_without_end(nexts):
    """By number how many of nexts lead on without end; nexts tell by number where one can go."""
    aheads = [[] for _ in nexts]
    for k in range(len(nexts)):
        for n in nexts[k]:
            aheads[n].append(k)
    many = [len(row) for row in nexts]
    ended = [k for k in range(len(nexts)) if many[k] == 0]
    while ended:
        own = ended.pop()
        for k in aheads[own]:
            many[k] -= 1
            if many[k] == 0:
                ended.append(k)
    return many


def ring_over(plan, stretches):
    """A tuple of two of stretches or more, each of which lies over the next one, the last over the first one.

    None if there is none. Who goes on without end comes back some time.
    """
    nexts = ones_under(plan, stretches)
    many = ways_without_end(nexts)
    left = [k for k in range(len(nexts)) if many[k] > 0]
    if not left:
        return None
    at, row, places = left[0], [], {}
    while at not in places:
        places[at] = len(row)
        row.append(at)
        at = [n for n in nexts[at] if many[n] > 0][0]
    return tuple([stretches[k] for k in row[places[at]:]])

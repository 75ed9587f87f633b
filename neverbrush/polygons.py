"""One street of crossings as a polygon: bent roads are its diagonals, full lots cut it into triangles."""

from neverbrush.kinds import are_numbers_all, as_row_of


def last_corner(plan):
    """The greatest corner of the polygon of a street."""
    return plan.size + 2


def corners_of(plan, road):
    """The pair of the corners of a bent ROAD, ascending."""
    side, first, moves = road
    begun = 0 if side == "W" else first + 1
    return (begun, last_corner(plan) if moves[-1] == "E" else first + len(moves) + 1)


def diagonal_from(plan, value):
    """The pair of the corners of a diagonal in a tuple, None if value is none."""
    pair = as_row_of(value, 2)
    if pair is None or not are_numbers_all(pair):
        return None
    one, other = pair
    is_inner = 0 <= one and one + 1 < other and other <= last_corner(plan)
    return pair if is_inner and pair != (0, last_corner(plan)) else None


def road_by_corners(plan, diagonal):
    """The bent ROAD with these corners."""
    one, other = diagonal
    side, first = ("W", 0) if one == 0 else ("N", one - 1)
    if other == last_corner(plan):
        return (side, first, "E" * (plan.size - first))
    return (side, first, "E" * (other - 2 - first) + "S")


def triangles_by(plan, diagonals):
    """The set of the triangles into which diagonals, as many as can be no two of which cross, cut the polygon."""
    last = last_corner(plan)
    known = {diagonal: True for diagonal in diagonals}
    known.update({(corner, corner + 1): True for corner in range(last)})
    found, row = [], [(0, last)]
    while row:
        one, other = row.pop()
        if other - one > 1:
            between = [corner for corner in range(one + 1, other)
                       if (one, corner) in known and (corner, other) in known][0]
            found.append((one, between, other))
            row.extend([(one, between), (between, other)])
    return tuple(sorted(found))


def diagonals_among(plan, triples):
    """The ascending list of the diagonals that are sides of some of triples."""
    found = {}
    for one, between, other in triples:
        for pair in ((one, between), (between, other), (one, other)):
            if diagonal_from(plan, pair) is not None:
                found[pair] = True
    return sorted(list(found))

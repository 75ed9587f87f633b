"""The document's words tried out plainly: by walking everywhere, by trying all."""

from itertools import combinations, product


def nexts(city):
    """For each way the dict of the next ones."""
    found = {"E": {}, "S": {}}
    for way, streets in zip("ES", city):
        for street in streets:
            for k, crossing in enumerate(street):
                found[way][crossing] = street[k + 1] if k + 1 < len(street) else None
    return found


def size(city):
    return sum(len(street) for street in city[0])


def walks_from(there, at):
    """All strings of moves from at out of the city."""
    found = []
    for way in "ES":
        if there[way][at] is None:
            found.append(way)
        else:
            found.extend(way + more for more in walks_from(there, there[way][at]))
    return found


def all_roads(city):
    """The ascending list of all ROADS."""
    there = nexts(city)
    starts = [("W", street[0]) for street in city[0]] + [("N", street[0]) for street in city[1]]
    return sorted((side, first, moves) for side, first in starts for moves in walks_from(there, first))


def passes(city, road):
    there, (side, at, moves), found = nexts(city), road, []
    for way in moves:
        found.append((at, side, way))
        at, side = there[way][at], "W" if way == "E" else "N"
    return found


def turns(city, road):
    table = [0] * size(city)
    for at, side, way in passes(city, road):
        if (side, way) == ("W", "S"):
            table[at] = 1
        if (side, way) == ("N", "E"):
            table[at] = -1
    return tuple(table)


def bends(city, road):
    return sum(1 for own in turns(city, road) if own)


def bent_roads(city):
    return [road for road in all_roads(city) if bends(city, road)]


def stretches_from(there, at):
    found = [""]
    for way in "ES":
        if there[way][at] is not None:
            found.extend(way + more for more in stretches_from(there, there[way][at]))
    return found


def all_stretches(city):
    there = nexts(city)
    return sorted((at, moves) for at in range(size(city)) for moves in stretches_from(there, at))


def crossings(city, stretch):
    there, (at, moves), found = nexts(city), stretch, [stretch[0]]
    for way in moves:
        at = there[way][at]
        found.append(at)
    return tuple(found)


def parts_of_stretch(city, stretch):
    """The list of (begin, end, part) of all parts of a STRETCH, places counted along it."""
    along, moves = crossings(city, stretch), stretch[1]
    return [(k, n, (along[k], moves[k:n])) for k in range(len(along)) for n in range(k, len(along))]


def over_pieces(city, stretch):
    moves = stretch[1]
    return sorted(part for k, n, part in parts_of_stretch(city, stretch)
                  if (k == 0 or moves[k - 1] == "S") and (n == len(moves) or moves[n] == "E"))


def under_pieces(city, stretch):
    moves = stretch[1]
    return sorted(part for k, n, part in parts_of_stretch(city, stretch)
                  if (k == 0 or moves[k - 1] == "E") and (n == len(moves) or moves[n] == "S"))


def parts_of_road(city, road):
    """For each STRETCH that is a part of the ROAD how it goes along it."""
    rows, found = passes(city, road), {}
    for k in range(len(rows)):
        for n in range(k, len(rows)):
            part = (rows[k][0], "".join(own[2] for own in rows[k:n]))
            found[part] = {("W", "S"): "low", ("N", "E"): "high"}.get((rows[k][1], rows[n][2]), "across")
    return found


def common_parts(city, road, other):
    """The STRETCHES that are parts of both and in no longer one that is."""
    mine, others = parts_of_road(city, road), parts_of_road(city, other)
    shared = [part for part in mine if part in others]
    inner = set()
    for part in shared:
        inner.update(own for _, _, own in parts_of_stretch(city, part) if own != part)
    return sorted(part for part in shared if part not in inner)


def brushing(city, road, other):
    """The sorted pairs (stretch, word) along which they brush, word told of road."""
    mine, others = parts_of_road(city, road), parts_of_road(city, other)
    return sorted((part, mine[part]) for part in mine
                  if (mine[part], others.get(part)) in (("low", "high"), ("high", "low")))


def brush_table(city):
    """The bent ROADS, and the set of the pairs of them that brush."""
    own = bent_roads(city)
    parts = {road: parts_of_road(city, road) for road in own}
    bad = set()
    for road, other in combinations(own, 2):
        for part, word in parts[road].items():
            if (word, parts[other].get(part)) in (("low", "high"), ("high", "low")):
                bad.add((road, other))
                bad.add((other, road))
                break
    return own, bad


def all_lots(city):
    """All LOTS, the empty one too."""
    own, bad = brush_table(city)
    found, row = [()], [()]
    while row:
        lot = row.pop()
        start = own.index(lot[-1]) + 1 if lot else 0
        for road in own[start:]:
            if not any((road, other) in bad for other in lot):
                found.append(lot + (road,))
                row.append(lot + (road,))
    return found


def table_of(city, bag):
    table = [0] * size(city)
    for road, many in bag:
        for k, number in enumerate(turns(city, road)):
            table[k] += many * number
    return tuple(table)


def all_bags(city, most):
    """All BAGS in which no ROAD stands more often than most times."""
    return [tuple(zip(lot, often)) for lot in all_lots(city)
            for often in product(range(1, most + 1), repeat=len(lot))]


def is_lot(city, roads):
    return not any(brushing(city, road, other) for road, other in combinations(roads, 2))


def roads_of_places(word, places):
    """The bent ROADS along the line of word that the places tell, as the document walks."""
    many, found, at = len(word) + 1, [], 0
    side, moves, first = ("W" if 0 in places else "N"), "", 0
    while at < many:
        way = "E" if at + 1 in places else "S"
        moves += way
        goes_on = at < many - 1 and (word[at] == "B" or word[at] == way)
        if not goes_on:
            straight = "E" if side == "W" else "S"
            if moves != straight * len(moves):
                found.append((side, first, moves))
            side, moves, first = ("W" if way == "E" else "N"), "", at + 1
        at += 1
    return found


def line_bag(word, table):
    """The BAG of a TABLE of line(word), by sorting."""
    levels = [0]
    for number in table:
        levels.append(levels[-1] - number)
    steps, counts = sorted(set(levels)), {}
    for lower, value in zip(steps, steps[1:]):
        for road in roads_of_places(word, {k for k, own in enumerate(levels) if own >= value}):
            counts[road] = counts.get(road, 0) + value - lower
    return tuple(sorted(counts.items()))

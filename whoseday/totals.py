"""The costs of all ways from node 0 of a graph, and ways that have a given cost."""

from whoseday.graphs import backward, keyed_way, kept_inside, part_of, reached_from, turned_costs
from whoseday.rings import Rings
from whoseday.rises import Rises
from whoseday.swings import Swings


class Totals:
    """The totals, costs of all steps together, of all ways of no or more steps from node 0 to some nodes.

    A way comes past no ring that costs anything, or past rings that cost more
    than 0 alone, or less alone, or past both: each is looked at on its own.
    """

    def __init__(self, rows, goals):
        # Nodes from which no goal is reached are left out; the others go by their places.
        leading = reached_from(backward(rows), goals)
        leading[0] = True
        self._nodes = [node for node in range(len(rows)) if leading[node]]
        places = {node: place for place, node in enumerate(self._nodes)}
        self._goals = [places[node] for node in goals]
        part = part_of(rows, self._nodes)
        rings = Rings(part)
        self._plain = _plain_totals(part, rings)
        self._rises = Rises(part, rings.groups, rings.gaps, rings.rising, rings.falling)
        self._drops = Rises(turned_costs(part), rings.groups, rings.gaps, rings.falling, rings.rising)
        self._swings = Swings(part, rings)

    def all_pieces(self):
        """The pieces of the set of the totals."""
        wanted = {place: True for place in self._goals}
        found = [("one", total) for place, total in self._plain if place in wanted]
        for place in self._goals:
            found.extend([("up", start, step) for start, step in self._rises.starts(place)])
            found.extend([("down", -start, step) for start, step in self._drops.starts(place)])
            found.extend([("every", rest, step) for rest, step in self._swings.rests(place)])
        return slimmed(found)

    def blocks(self, total):
        """A way in blocks, pairs (way, times), with a total; None if there is none."""
        found = self._blocks_of_places(total)
        if found is None:
            return None
        return [([self._nodes[place] for place in way], times) for way, times in found]

    def _blocks_of_places(self, total):
        for place in self._goals:
            if (place, total) in self._plain:
                return [(keyed_way(self._plain, (place, total)), 1)]
        for place in self._goals:
            for blocks in (
                self._rises.blocks(place, total), self._drops.blocks(place, -total), self._swings.blocks(place, total),
            ):
                if blocks is not None:
                    return short_blocks(blocks)
        return None


def slimmed(pieces):
    """The pieces without those that lie in another one of them."""
    order = sorted([(("every", "up", "down", "one").index(piece[0]), *piece[2:], piece) for piece in pieces])
    kept = {}
    steps = {}
    found = []
    for row in order:
        piece = row[-1]
        if not _lies_in(piece, kept, list(steps)):
            found.append(piece)
            if piece[0] != "one":
                word, start, step = piece
                steps[step] = True
                kept[(word, step, start % step)] = start
            else:
                kept[piece] = True
    return found


def short_blocks(blocks):
    """The same ways with times, where what is gone several times in a row is told once."""
    found = []
    for way, times in blocks:
        if times == 1:
            found.extend(_folded(way))
        else:
            found.append((way, times))
    return found


def _plain_totals(rows, rings):
    """The pairs (node, total) of ways past no ring that costs anything, each with the pair ahead of it."""
    still = [gap == 0 for gap in rings.gaps]
    calm = [still[group] for group in rings.groups]
    inside = kept_inside(rows, calm)
    before = {(0, 0): (0, 0)} if calm[0] else {}
    line = list(before)
    at = 0
    while at < len(line):
        node, total = line[at]
        for step in list(inside[node]):
            later = (step[0], total + step[1])
            if later not in before:
                before[later] = (node, total)
                line.append(later)
        at += 1
    return before


def _lies_in(piece, kept, steps):
    """Tells whether a piece lies in one that is kept."""
    word, start = piece[:2]
    if word == "one" and piece in kept:
        return True
    for step in steps:
        if word == "one" or piece[2] % step == 0:
            rest = start % step
            if ("every", step, rest) in kept:
                return True
            if word in ("one", "up") and kept.get(("up", step, rest), start + 1) <= start:
                return True
            if word in ("one", "down") and kept.get(("down", step, rest), start - 1) >= start:
                return True
    return False


def _folded(way):
    """A way as ways with times, without rings that are gone several times in a row."""
    coming = [None for _ in way]
    last = {}
    for at in range(len(way) - 1, -1, -1):
        coming[at] = last.get(way[at])
        last[way[at]] = at
    found = []
    start = 0
    at = 0
    while at < len(way) - 1:
        times = _turns(way, at, coming[at])
        if times > 1:
            found.append((way[start:at + 1], 1))
            found.append((way[at:coming[at] + 1], times))
            start = at + times * (coming[at] - at)
            at = start
        else:
            at += 1
    found.append((way[start:], 1))
    return found


def _turns(way, at, back):
    """How often the way goes the ring that begins at a place and comes back at another one."""
    if back is None:
        return 1
    size = back - at
    times = 1
    while way[at:back + 1] == way[at + times * size:back + times * size + 1]:
        times += 1
    return times

"""The costs of all ways from node 0 that come past both rising and falling rings.

Such a way can be made dearer and cheaper by turns of the rings. So its total
can be any number of the same rest by the greatest common divisor of what all
rings beside it cost.
"""

from math import gcd

from whoseday.graphs import backward, cost_of, keyed_way, part_of


class Swings:
    """All totals of ways past rising and falling rings: their rests, by steps."""

    def __init__(self, rows, rings):
        self._runs = []
        ups = sorted({gap for gap, ring in zip(rings.gaps, rings.rising) if ring is not None})
        downs = sorted({gap for gap, ring in zip(rings.gaps, rings.falling) if ring is not None})
        for up in ups:
            for down in downs:
                self._runs.append(Swing(rows, rings, up, down))

    def rests(self, node):
        """The pairs (rest, step) of the totals at a node."""
        found = []
        for run in self._runs:
            found.extend([(rest, run.step) for rest in run.rests_at(node)])
        return found

    def blocks(self, node, total):
        """Ways with times that lead to a node with a total; None if there are none."""
        for run in self._runs:
            blocks = run.blocks(node, total)
            if blocks is not None:
                return blocks
        return None


class Swing:
    """The ways past a rising ring of a component of one gap and a falling ring of one of another gap."""

    def __init__(self, rows, rings, up, down):
        self.step = gcd(up, down)
        self._rows = rows
        self._rings = rings
        self._up = up
        self._down = down
        first = (0, 0, *self._marks(0))
        self._before = {first: first}
        line = [first]
        at = 0
        while at < len(line):
            key = line[at]
            at += 1
            node, rest, rises, falls = key
            for step in list(rows[node]):
                goal = step[0]
                up_there, down_there = self._marks(goal)
                later = (goal, (rest + step[1]) % self.step, rises or up_there, falls or down_there)
                if later not in self._before:
                    self._before[later] = key
                    line.append(later)

    def rests_at(self, node):
        """The rests of all totals at a node."""
        return [rest for rest in range(self.step) if (node, rest, True, True) in self._before]

    def blocks(self, node, total):
        """Ways with times that lead to a node with a total; None if there are none."""
        key = (node, total % self.step, True, True)
        if key not in self._before:
            return None
        return self._balanced(keyed_way(self._before, key), total)

    def _marks(self, node):
        """Whether the node has a rising ring of the one gap, and a falling ring of the other one."""
        gap = self._rings.gap_of(node)
        rises = gap == self._up and self._rings.rising_at(node) is not None
        return rises, gap == self._down and self._rings.falling_at(node) is not None

    def _balanced(self, way, total):
        """A way with rings beside it that are gone round so often that all costs the total."""
        marks = [self._marks(node) for node in way]
        up = [place for place, mark in enumerate(marks) if mark[0]][0]
        down = [place for place, mark in enumerate(marks) if mark[1]][0]
        tours = sorted([(up, 0), (down, 1)])
        parts = []
        start = 0
        for place, falls in tours:
            parts.append((way[start:place + 1], False))
            ring = self._rings.falling_at(way[place]) if falls else self._rings.rising_at(way[place])
            parts.extend(_tour(self._rows, self._rings, way[place], ring))
            start = place
        parts.append((way[start:], False))
        fixed = sum([cost_of(self._rows, part) for part, turns in parts if not turns])
        costs = [cost_of(self._rows, part) for part, turns in parts if turns]
        left = shares(costs, total - fixed)
        blocks = []
        for part, turns in parts:
            blocks.append((part, left.pop(0) if turns else 1))
        return blocks


def shares(costs, total):
    """Numbers, none below 0, so that the costs, each so often as its number tells, make the total.

    Some cost is above 0 and some below 0; the total is a multiple of their
    greatest common divisor.
    """
    times = [0 for _ in costs]
    up = [place for place, cost in enumerate(costs) if cost > 0][0]
    down = [place for place, cost in enumerate(costs) if cost < 0][0]
    order = [up, down, *[place for place in range(len(costs)) if place not in (up, down)]]
    gaps = [0]
    for place in order:
        gaps.append(gcd(gaps[-1], costs[place]))
    # From the last one on, each makes the rest a multiple of the gap of those ahead of it.
    left = total
    for at in range(len(order) - 1, 0, -1):
        place = order[at]
        while left % gaps[at] != 0:
            left -= costs[place]
            times[place] += 1
    times[up] = left // costs[up]
    # Turns of both together cost nothing and keep the numbers from being below 0.
    rounds = max(0, -(times[up] // -costs[down]))
    times[up] += rounds * -costs[down]
    times[down] += rounds * costs[up]
    return times


def _tour(rows, rings, node, ring):
    """Parts (way, whether it may be gone again and again) that lead from a node round a ring and back.

    Behind them ways from the node back to it follow, so many that the greatest
    common divisor of all that may be gone again is the gap of the component.
    """
    nodes = rings.members[rings.groups[node]]
    part = part_of(rows, nodes)
    here = nodes.index(node)
    gap = rings.gap_of(node)
    common = cost_of(rows, ring)
    out = _steps_out(part, here)
    home = _steps_out(backward(part), here)
    ways = []
    for one, row in enumerate(part):
        for step in row:
            cost = out[one][0] + step[1] + home[step[0]][0]
            if abs(common) != gap and gcd(common, cost) != abs(common):
                common = gcd(common, cost)
                ways.append([*_traced_out(out, one), *_traced_out(home, step[0])[::-1]])
    there = nodes.index(ring[0])
    return [
        ([nodes[place] for place in _traced_out(out, there)], False),
        (ring, True),
        ([nodes[place] for place in _traced_out(home, there)[::-1]], False),
        *[([nodes[place] for place in way], True) for way in ways],
    ]


def _steps_out(part, start):
    """For each node of a component the cost of a short way from start, and the node ahead of it."""
    found = [None for _ in part]
    found[start] = (0, start)
    line = [start]
    at = 0
    while at < len(line):
        node = line[at]
        at += 1
        for goal, cost in list(part[node]):
            if found[goal] is None:
                found[goal] = (found[node][0] + cost, node)
                line.append(goal)
    return found


def _traced_out(found, node):
    """The way from the start of the search to a node."""
    way = [node]
    while found[way[-1]][1] != way[-1]:
        way.append(found[way[-1]][1])
    return way[::-1]

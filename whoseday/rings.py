"""The rings of a graph: where they are, and what they cost."""

from math import gcd

from whoseday.graphs import (
    components, cost_of, falling_ring, least_costs, part_of, short_way, traced, turned_costs,
)


class Rings:
    """The components of a graph and the rings inside them.

    groups tells for each node the number of its component. For each component
    members are its nodes, gaps the greatest common divisor of the costs of all
    its rings, 0 if they cost nothing, and rising and falling a ring, as a way,
    that costs more and less than 0, or None.
    """

    def __init__(self, rows):
        self.members = components(rows)
        self.groups = [None for _ in rows]
        self.gaps = []
        self.rising = []
        self.falling = []
        for number, nodes in enumerate(self.members):
            for node in nodes:
                self.groups[node] = number
            part = part_of(rows, nodes)
            gap = _gap(part) if part[0] else 0
            self.gaps.append(gap)
            self.rising.append(_ring_of(turned_costs(part), nodes) if gap else None)
            self.falling.append(_ring_of(part, nodes) if gap else None)

    def gap_of(self, node):
        """The gap of the component of a node."""
        return self.gaps[self.groups[node]]

    def rising_at(self, node):
        """The rising ring of the component of a node, or None."""
        return self.rising[self.groups[node]]

    def falling_at(self, node):
        """The falling ring of the component of a node, or None."""
        return self.falling[self.groups[node]]


def cheapest_ring(rows, start):
    """A way of least cost from a node back to it, by one step or more; None if there is none.

    There must be no falling ring.
    """
    costs, before = least_costs(rows, start)
    best = None
    for node, row in enumerate(rows):
        for step in row:
            if step[0] == start and costs[node] is not None:
                if best is None or costs[node] + step[1] < best[0]:
                    best = (costs[node] + step[1], node)
    return None if best is None else [*traced(before, start, best[1]), start]


def balanced_ring(rows, start, rising, falling):
    """Ways with times that lead from a node back to it, with a cost of 0 in all.

    The way to both rings and back is gone so often that turns of both rings
    make up for its cost.
    """
    out = short_way(rows, start, rising[0])
    across = [*short_way(rows, rising[0], start), *short_way(rows, start, falling[0])[1:]]
    home = short_way(rows, falling[0], start)
    loop = [*out, *across[1:], *home[1:]]
    cost = cost_of(rows, loop)
    up = cost_of(rows, rising)
    down = -cost_of(rows, falling)
    # up * cost + (many * down - cost) * up - many * up * down is 0.
    many = max(1, cost // down + 1)
    return [
        (loop, up - 1), (out, 1), (rising, many * down - cost), (across, 1), (falling, many * up), (home, 1),
    ]


def stray_way(rows, wanted):
    """A shortest way of a step or more from node 0 to a wanted node, but not to node 0 with a cost of 0.

    wanted tells it for each node. None if there is no such way.
    """
    line = [(0, 0)]
    before = [None]
    totals = [[] for _ in rows]
    totals[0].append(0)
    at = 0
    while at < len(line):
        node, moved = line[at]
        for step in list(rows[node]):
            goal = step[0]
            total = moved + step[1]
            # Two totals are enough: if a third one led to such a way, one of
            # them at least would, and not later.
            if len(totals[goal]) < 2 and total not in totals[goal]:
                totals[goal].append(total)
                line.append((goal, total))
                before.append(at)
                if wanted[goal]:
                    return [line[place][0] for place in traced(before, 0, len(line) - 1)]
        at += 1
    return None


def _gap(part):
    """The greatest common divisor of the costs of all rings of a component; 0 if they cost nothing."""
    # Where two ways from one node to another one differ, rings differ by as much.
    heights = [None for _ in part]
    heights[0] = 0
    waiting = [0]
    gap = 0
    while waiting:
        node = waiting.pop()
        for goal, cost in list(part[node]):
            if heights[goal] is None:
                heights[goal] = heights[node] + cost
                waiting.append(goal)
            gap = gcd(gap, heights[node] + cost - heights[goal])
    return gap


def _ring_of(part, nodes):
    ring = falling_ring(part)
    return None if ring is None else [nodes[place] for place in ring]

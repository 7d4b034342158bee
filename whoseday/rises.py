"""The costs of all ways from node 0 that come past a ring that costs more than 0.

Only nodes from which no falling ring can be gone round are looked at. So each
of the ways can be made dearer, by turns of rings, but there is a cheapest one
of each rest.
"""

from heapq import heappop, heappush

from whoseday.graphs import keyed_way, kept_inside, least_costs
from whoseday.hubs import Hub


class Rises:
    """All totals of ways past rising rings: for each node and rest the least one, by steps.

    groups are the numbers of the components of the nodes, gaps what the costs
    of their rings have in common, rising and falling tell for each component
    whether it has such rings.
    """

    def __init__(self, rows, groups, gaps, rising, falling):
        self._runs = []
        self._hubs = {}
        calm = [falling[group] is None for group in groups]
        if not calm[0] or all([ring is None for ring in rising]):
            return
        inside = kept_inside(rows, calm)
        heights, _ = least_costs(inside, 0)
        level = _leveled(inside, heights)
        steps = {}
        for hub in _hubs(level, heights, groups, gaps, rising):
            for node, step in hub.chosen_steps().items():
                self._hubs[node] = hub
                steps[node] = step
        for step in sorted({one for one in steps.values()}):
            marks = [steps.get(node) == step for node in range(len(level))]
            self._runs.append(Run(level, heights, marks, step))
            # All totals of ways past a marked node are told now, the others come past none.
            if marks[0]:
                break
            level = kept_inside(level, [not marked for marked in marks])

    def starts(self, node):
        """The pairs (least, step) of the totals at a node: least, least + step, and so on."""
        found = []
        for run in self._runs:
            found.extend([(least, run.step) for least in run.least_at(node)])
        return found

    def blocks(self, node, total):
        """Ways with times that lead to a node with a total; None if there are none."""
        for run in self._runs:
            if run.has(node, total):
                way, place, times = run.way_to(node, total)
                turns = self._hubs[way[place]].turns(way[place], run.step, times)
                return [(way[:place + 1], 1), *turns, (way[place:], 1)]
        return None


class Run:
    """The least totals of ways past a node that is marked: it can be made dearer by one step."""

    def __init__(self, level, heights, marks, step):
        self.step = step
        self._marked = marks
        self._least = [{} for _ in level]
        self._before = {}
        first = (0, 0, marks[0])
        waiting = [(0, 0, marks[0], first)]
        while waiting:
            cost, node, past, ahead = heappop(waiting)
            total = cost + heights[node]
            key = (node, total % step, past)
            if key not in self._before:
                self._before[key] = ahead
                if past:
                    self._least[node][total % step] = total
                for goal, more in list(level[node]):
                    later = past or marks[goal]
                    if (goal, (cost + more + heights[goal]) % step, later) not in self._before:
                        heappush(waiting, (cost + more, goal, later, key))

    def least_at(self, node):
        """The least totals of all rests at a node."""
        return list(self._least[node].values())

    def has(self, node, total):
        """Tells whether there is a way to a node with a total."""
        return self._least[node].get(total % self.step, total + 1) <= total

    def way_to(self, node, total):
        """A way of the same rest, the place on it that is marked, and the steps that are missing."""
        way = keyed_way(self._before, (node, total % self.step, True))
        place = [at for at, one in enumerate(way) if self._marked[one]][0]
        return way, place, (total - self._least[node][total % self.step]) // self.step


def _leveled(rows, heights):
    """The graph with other costs for the same rings, none of them below 0."""
    return [
        [] if height is None else [(step[0], step[1] + height - heights[step[0]]) for step in row]
        for height, row in zip(heights, rows)
    ]


def _hubs(level, heights, groups, gaps, rising):
    """A hub for each component with a rising ring to which a way leads."""
    members = {}
    for node, group in enumerate(groups):
        if heights[node] is not None and rising[group] is not None:
            members.setdefault(group, []).append(node)
    return [Hub(level, nodes, gaps[group]) for group, nodes in members.items()]

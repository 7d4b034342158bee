"""Rings through one node of a component in which no step costs less than 0."""

from heapq import heappop, heappush

from whoseday.graphs import backward, least_costs, part_of, traced

TRIED = 16
GREEDY = 12


class Hub:
    """A node of a component, and ways through it that lead any node of the component back to itself.

    By such a trip to the hub and back, and loops from the hub to itself, each
    node can be made dearer by the steps that are told for it.
    """

    def __init__(self, level, nodes, gap):
        part = part_of(level, nodes)
        self._nodes = nodes
        self._places = {node: place for place, node in enumerate(nodes)}
        self._hub = _best_hub(part, gap)
        out, self._ahead = least_costs(part, self._hub)
        home, self._behind = least_costs(backward(part), self._hub)
        self._trips = [there + back for there, back in zip(home, out)]
        self._loops = {}
        for place, row in enumerate(part):
            for goal, more in row:
                cost = out[place] + more + home[goal]
                if cost > 0 and cost not in self._loops:
                    self._loops[cost] = (place, goal)
        self._coins = _coins(sorted(list(self._loops)), 2 * max([*self._trips, *list(self._loops)]))

    def chosen_steps(self):
        """For each node of the component the step by which it can be made dearer: {node: step}."""
        chosen = _chosen(self._trips, self._coins)
        return {node: chosen[trip] for node, trip in zip(self._nodes, self._trips)}

    def turns(self, node, step, times):
        """Ways with times that lead from a node back to it and cost so many steps."""
        if times == 0:
            return []
        place = self._places[node]
        there = traced(self._behind, self._hub, place)[::-1]
        back = traced(self._ahead, self._hub, place)
        blocks = [([*there, *back[1:]], times - 1), (there, 1)]
        left = step - self._trips[place]
        counts = {}
        while left > 0:
            coin = self._coins[left]
            counts[coin] = counts.get(coin, 0) + 1
            left -= coin
        for coin, many in counts.items():
            blocks.append((self._loop(coin), many * times))
        blocks.append((back, 1))
        return [([self._nodes[one] for one in way], many) for way, many in blocks]

    def _loop(self, coin):
        """A way from the hub to itself that costs so much."""
        place, goal = self._loops[coin]
        return [*traced(self._ahead, self._hub, place), *traced(self._behind, self._hub, goal)[::-1]]


def _best_hub(part, gap):
    """Of some nodes the one with the cheapest ring that costs more than 0; all rings cost multiples of gap."""
    best = None
    for node in range(0, len(part), max(1, len(part) // TRIED)):
        cost = _cheapest_rise(part, node)
        if best is None or cost < best[0]:
            best = (cost, node)
        if cost == gap:
            break
    return best[1]


def _cheapest_rise(part, start):
    """The least cost above 0 of a way from a node back to it."""
    done = {}
    waiting = [(0, start, False)]
    while True:
        cost, node, risen = heappop(waiting)
        if risen and node == start:
            return cost
        if (node, risen) not in done:
            done[(node, risen)] = True
            for goal, more in list(part[node]):
                heappush(waiting, (cost + more, goal, risen or more > 0))


def _coins(loops, bound):
    """For each number up to a bound the last of the loops that together cost so much, or None."""
    coins = [None for _ in range(bound + 1)]
    coins[0] = 0
    for loop in loops:
        for total in range(loop, bound + 1):
            if coins[total] is None and coins[total - loop] is not None:
                coins[total] = loop
    return coins


def _chosen(trips, coins):
    """For each cost of a trip a step above 0: it is what the trip and some loops cost.

    Few steps and small ones are taken, as each of them is looked at on its own.
    """
    left = {}
    for trip in trips:
        left[trip] = left.get(trip, 0) + 1
    chosen = {}
    for turn in range(len(trips)):
        if not left:
            break
        # Where it would take long to choose well, the cost of a trip itself will do.
        step = _best_step(left, coins) if turn < GREEDY else max(list(left))
        for trip in list(left):
            if _fits(trip, step, coins):
                chosen[trip] = step
                del left[trip]
    return chosen


def _fits(trip, step, coins):
    return trip <= step and coins[step - trip] is not None


def _best_step(left, coins):
    """The step that fits the most nodes, by its size."""
    best = (0, 1)
    for step in range(1, len(coins)):
        many = sum([count for trip, count in left.items() if _fits(trip, step, coins)])
        if many * best[1] > best[0] * step:
            best = (many, step)
    return best[1]

"""Ways and rings in graphs whose steps have costs.

A graph is a list or tuple with a row for each node; a row consists of tuples
that begin with the node to which the step leads and the cost of the step. Ways
are lists of nodes: where they begin, and the node behind each step.
"""


def kept_inside(rows, inside):
    """The graph with the steps alone of which both ends are inside; inside tells it for each node."""
    return [
        [step for step in row if inside[node] and inside[step[0]]] for node, row in enumerate(rows)
    ]


def turned_costs(rows):
    """The graph with the signs of all costs turned."""
    return [[(step[0], -step[1]) for step in row] for row in rows]


def backward(rows):
    """The graph with all steps backward."""
    found = [[] for _ in rows]
    for node, row in enumerate(rows):
        for step in row:
            found[step[0]].append((node, step[1]))
    return found


def reached_from(rows, starts):
    """For each node whether some steps, or none, lead to it from one of the starts."""
    found = [False for _ in rows]
    for start in starts:
        found[start] = True
    waiting = list(starts)
    while waiting:
        node = waiting.pop()
        for step in list(rows[node]):
            if not found[step[0]]:
                found[step[0]] = True
                waiting.append(step[0])
    return found


def short_way(rows, start, goal):
    """A way with as few steps as possible; None if no way leads there."""
    before = [None for _ in rows]
    before[start] = start
    line = [start]
    at = 0
    while before[goal] is None and at < len(line):
        node = line[at]
        at += 1
        for step in list(rows[node]):
            if before[step[0]] is None:
                before[step[0]] = node
                line.append(step[0])
    return None if before[goal] is None else traced(before, start, goal)


def cost_of(rows, way):
    """The cost of all steps of a way."""
    total = 0
    for at in range(1, len(way)):
        total += _cost_between(rows, way[at - 1], way[at])
    return total


def falling_ring(rows):
    """A way that leads back to its beginning with a cost below 0; None if there is none.

    It is found soon if most steps go to later nodes.
    """
    order = list(range(len(rows)))
    costs = [0 for _ in rows]
    before = [None for _ in rows]
    fresh = [True for _ in rows]
    while _improve(rows, order, costs, before, fresh):
        # As soon as costs can fall for ever, the nodes ahead of one another make a ring.
        ring = _ring_in(before)
        if ring is not None:
            return ring
    return None


def least_costs(rows, start):
    """The least cost of a way to each node, and the node ahead of it on such a way.

    Both are None where no way leads. There must be no falling ring.
    """
    order = _left_in_order(rows, [start])[::-1]
    costs = [None for _ in rows]
    before = [None for _ in rows]
    costs[start] = 0
    fresh = [node == start for node in range(len(rows))]
    while _improve(rows, order, costs, before, fresh):
        pass
    return costs, before


def costs_after(rows, many, goals):
    """The least and the greatest cost of ways of many steps from node 0 to some nodes; None if there are none."""
    ends = {0: (0, 0)}
    for _ in range(many):
        later = {}
        for node, (low, high) in list(ends.items()):
            for step in list(rows[node]):
                least, most = later.get(step[0], (low + step[1], high + step[1]))
                later[step[0]] = (min(least, low + step[1]), max(most, high + step[1]))
        ends = later
    found = [ends[node] for node in goals if node in ends]
    return (min([low for low, _ in found]), max([high for _, high in found])) if found else None


def traced(before, start, goal):
    """The way from start to goal that the nodes ahead of one another tell."""
    way = [goal]
    while way[-1] != start:
        way.append(before[way[-1]])
    return way[::-1]


def _cost_between(rows, node, goal):
    return [step[1] for step in rows[node] if step[0] == goal][0]


def _improve(rows, order, costs, before, fresh):
    """Makes costs less by one step at a time, in one turn; tells whether some became less.

    The turn goes through the nodes in an order, but only those that are fresh:
    whose costs became less since the steps from them were looked at.
    """
    changed = False
    for node in order:
        if fresh[node]:
            fresh[node] = False
            for step in rows[node]:
                goal = step[0]
                cost = costs[node] + step[1]
                if costs[goal] is None or cost < costs[goal]:
                    costs[goal] = cost
                    before[goal] = node
                    fresh[goal] = True
                    changed = True
    return changed


def _ring_in(before):
    """A ring, as a way, of nodes that are ahead of one another; None if there is none."""
    seen = [None for _ in before]
    for start in range(len(before)):
        node = start
        while node is not None and seen[node] is None:
            seen[node] = start
            node = before[node]
        if node is not None and seen[node] == start:
            ring = [node]
            while len(ring) == 1 or ring[-1] != node:
                ring.append(before[ring[-1]])
            return ring[::-1]
    return None


def keyed_way(before, key):
    """The way of the nodes of keys ahead of one another; a key begins with its node, the first is ahead of itself."""
    way = [key[0]]
    at = key
    while before[at] != at:
        at = before[at]
        way.append(at[0])
    return way[::-1]


def part_of(rows, nodes):
    """The graph of some nodes and the steps between them; its nodes are their places in nodes."""
    places = {node: place for place, node in enumerate(nodes)}
    return [[(places[step[0]], step[1]) for step in rows[node] if step[0] in places] for node in nodes]


def components(rows):
    """The lists of the nodes from each of which ways lead to all others of the list, and back.

    A list comes ahead of those to which ways lead from it, and in a list most
    steps go to later nodes.
    """
    back = backward(rows)
    groups = [None for _ in rows]
    found = []
    order = _left_in_order(rows, list(range(len(rows))))[::-1]
    for root in order:
        if groups[root] is None:
            groups[root] = len(found)
            waiting = [root]
            while waiting:
                for step in list(back[waiting.pop()]):
                    if groups[step[0]] is None:
                        groups[step[0]] = len(found)
                        waiting.append(step[0])
            found.append([])
    for node in order:
        found[groups[node]].append(node)
    return found


def _left_in_order(rows, roots):
    """The nodes in the order in which a search from roots that goes deep first leaves them for good.

    Turned round, most steps go on in it: so costs are told soon if the nodes
    are gone through in that order.
    """
    seen = [False for _ in rows]
    left = []
    for root in roots:
        stack = [root]
        while stack:
            node = stack.pop()
            if node < 0:
                left.append(-1 - node)
            elif not seen[node]:
                seen[node] = True
                # Below 0 it comes up again behind all that is found from it.
                stack.append(-1 - node)
                for step in list(rows[node]):
                    if not seen[step[0]]:
                        stack.append(step[0])
    return left

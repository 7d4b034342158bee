"""Ways and rings in graphs whose steps have costs.

A graph is a list or tuple with a row for each node; a row consists of tuples
that begin with the node to which the step leads and the cost of the step. Ways
are lists of nodes: where they begin, and the node behind each step.
"""


def kept_inside(rows, inside):
    """The graph with the steps alone of which both ends are inside; inside tells it for each node."""
    return [
        [step for step in row if inside[node] and inside[step[0]]] for node, row in enumerate(rows)
    ]


def turned_costs(rows):
    """The graph with the signs of all costs turned."""
    return [[(step[0], -step[1]) for step in row] for row in rows]


def backward(rows):
    """The graph with all steps backward."""
    found = [[] for _ in rows]
    for node, row in enumerate(rows):
        for step in row:
            found[step[0]].append((node, step[1]))
    return found


def reached_from(rows, starts):
    """For each node whether some steps, or none, lead to it from one of the starts."""
    found = [False for _ in rows]
    for start in starts:
        found[start] = True
    waiting = list(starts)
    while waiting:
        node = waiting.pop()
        for step in list(rows[node]):
            if not found[step[0]]:
                found[step[0]] = True
                waiting.append(step[0])
    return found


def short_way(rows, start, goal):
    """A way with as few steps as possible; None if no way leads there."""
    before = [None for _ in rows]
    before[start] = start
    line = [start]
    at = 0
    while before[goal] is None and at < len(line):
        node = line[at]
        at += 1
        for step in list(rows[node]):
            if before[step[0]] is None:
                before[step[0]] = node
                line.append(step[0])
    return None if before[goal] is None else traced(before, start, goal)


def cost_of(rows, way):
    """The cost of all steps of a way."""
    total = 0
    for at in range(1, len(way)):
        total += _cost_between(rows, way[at - 1], way[at])
    return total


def falling_ring(rows):
    """A way that leads back to its beginning with a cost below 0; None if there is none."""
    costs = [0 for _ in rows]
    before = [None for _ in rows]
    while _improve(rows, costs, before):
        # As soon as costs can fall for ever, the nodes ahead of one another make a ring.
        ring = _ring_in(before)
        if ring is not None:
            return ring
    return None


def least_costs(rows, start):
    """The least cost of a way to each node, and the node ahead of it on such a way.

    Both are None where no way leads. There must be no falling ring.
    """
    costs = [None for _ in rows]
    before = [None for _ in rows]
    costs[start] = 0
    changed = True
    while changed:
        changed = _improve(rows, costs, before)
    return costs, before


def costs_after(rows, many, goals):
    """The least and the greatest cost of ways of many steps from node 0 to some nodes; None if there are none."""
    ends = {0: (0, 0)}
    for _ in range(many):
        later = {}
        for node, (low, high) in list(ends.items()):
            for step in list(rows[node]):
                least, most = later.get(step[0], (low + step[1], high + step[1]))
                later[step[0]] = (min(least, low + step[1]), max(most, high + step[1]))
        ends = later
    found = [ends[node] for node in goals if node in ends]
    return (min([low for low, _ in found]), max([high for _, high in found])) if found else None


def traced(before, start, goal):
    """The way from start to goal that the nodes ahead of one another tell."""
    way = [goal]
    while way[-1] != start:
        way.append(before[way[-1]])
    return way[::-1]


def _cost_between(rows, node, goal):
    return [step[1] for step in rows[node] if step[0] == goal][0]


def _improve(rows, costs, before):
    """Makes costs less by one step at a time, in one turn; tells whether some became less."""
    changed = False
    for node, row in enumerate(rows):
        if costs[node] is not None:
            for step in row:
                goal = step[0]
                cost = costs[node] + step[1]
                if costs[goal] is None or cost < costs[goal]:
                    costs[goal] = cost
                    before[goal] = node
                    changed = True
    return changed


def _ring_in(before):
    """A ring, as a way, of nodes that are ahead of one another; None if there is none."""
    seen = [None for _ in before]
    for start in range(len(before)):
        node = start
        while node is not None and seen[node] is None:
            seen[node] = start
            node = before[node]
        if node is not None and seen[node] == start:
            ring = [node]
            while len(ring) == 1 or ring[-1] != node:
                ring.append(before[ring[-1]])
            return ring[::-1]
    return None


def keyed_way(before, key):
    """The way of the nodes of keys ahead of one another; a key begins with its node, the first is ahead of itself."""
    way = [key[0]]
    at = key
    while before[at] != at:
        at = before[at]
        way.append(at[0])
    return way[::-1]


def part_of(rows, nodes):
    """The graph of some nodes and the steps between them; its nodes are their places in nodes."""
    places = {node: place for place, node in enumerate(nodes)}
    return [[(places[step[0]], step[1]) for step in rows[node] if step[0] in places] for node in nodes]


def components(rows):
    """The lists of the nodes from each of which ways lead to all others of the list, and back.

    A list comes ahead of those to which ways lead from it.
    """
    back = backward(rows)
    taken = [False for _ in rows]
    found = []
    for root in _left_in_order(rows)[::-1]:
        if not taken[root]:
            taken[root] = True
            nodes = [root]
            at = 0
            while at < len(nodes):
                node = nodes[at]
                at += 1
                for step in list(back[node]):
                    if not taken[step[0]]:
                        taken[step[0]] = True
                        nodes.append(step[0])
            found.append(nodes)
    return found


def _left_in_order(rows):
    """The nodes in the order in which a search that goes deep first leaves them for good."""
    seen = [False for _ in rows]
    left = []
    for root in range(len(rows)):
        stack = [] if seen[root] else [(root, 0)]
        seen[root] = True
        while stack:
            node, at = stack.pop()
            if at == len(rows[node]):
                left.append(node)
            else:
                stack.append((node, at + 1))
                goal = rows[node][at][0]
                if not seen[goal]:
                    seen[goal] = True
                    stack.append((goal, 0))
    return left

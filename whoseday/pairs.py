"""Two points that are copied along the same walks: pairs of their states."""

from whoseday.errors import TooMany
from whoseday.states import state_copy


class Pairs:
    """The pairs of states to which walks lead two points, each of which has its own copier.

    Members of steps are tuples (index, days, name): where a copy leads, by how
    many days more it moves the second point than the first one, and the
    program that is copied to.
    """

    def __init__(self, net, copiers, first, most):
        targets = {p: net.targets_of(p) for p in net.programs}
        self.found = [first]
        self.steps = []
        numbers = {first: 0}
        while len(self.steps) < len(self.found):
            pair = self.found[len(self.steps)]
            row = []
            for q in list(targets[pair[0][0]]):
                goal, days = pair_copy(copiers, pair, q)
                if goal not in numbers:
                    if len(self.found) >= most:
                        raise TooMany(most)
                    numbers[goal] = len(self.found)
                    self.found.append(goal)
                row.append((numbers[goal], days, q))
            self.steps.append(row)

    def at(self, q):
        """The indices of the pairs at a program."""
        return [index for index, pair in enumerate(self.found) if pair[0][0] == q]

    def row_on(self, way):
        """The names of the programs to which the entry is copied on a way of pairs."""
        return tuple([self.found[index][0][0] for index in way[1:]])


def pair_blocks(pairs, blocks):
    """The walk in blocks that ways of pairs with times tell; those without copies are left out."""
    return tuple([(pairs.row_on(way), times) for way, times in blocks if len(way) > 1 and times > 0])


def pair_copy(copiers, pair, q):
    """The pair to which a copy leads, and the days by which it moves the second point more."""
    one, early = state_copy(copiers[0], pair[0], q)
    other, late = state_copy(copiers[1], pair[1], q)
    return (one, other), late - early

"""Two points that are copied along the same walks: pairs of their states."""

from whoseday.errors import TooMany


class Pairs:
    """The pairs of states to which walks lead two points, each of which has its own Leads.

    Members of steps are tuples (index, days, name): where a copy leads, by how
    many days more it moves the second point than the first one, and the
    program that is copied to.
    """

    def __init__(self, one, other, most):
        self.steps = []
        found = [(0, 0)]
        numbers = {(0, 0): 0}
        while len(self.steps) < len(found):
            row = []
            for pair, days, q in list(pair_steps(one, other, found[len(self.steps)])):
                if pair not in numbers:
                    numbers[pair] = len(found)
                    found.append(pair)
                row.append((numbers[pair], days, q))
            if len(found) > most:
                raise TooMany(most)
            self.steps.append(row)
        # Both points of a pair are at the same program.
        self._programs = [one.program_of(number) for number, _ in found]

    def at(self, q):
        """The indices of the pairs at a program."""
        return [index for index, p in enumerate(self._programs) if p == q]

    def row_on(self, way):
        """The names of the programs to which the entry is copied on a way of pairs."""
        return tuple([self._programs[index] for index in way[1:]])


def pair_blocks(pairs, blocks):
    """The walk in blocks that ways of pairs with times tell; those without copies are left out."""
    return tuple([(pairs.row_on(way), times) for way, times in blocks if len(way) > 1 and times > 0])


def pair_steps(one, other, pair):
    """The tuples (pair, days, name) of all copies: where they lead, and by how much more they move the second point."""
    return [
        ((goal, twin), late - early, q)
        for (goal, early, q), (twin, late, _) in zip(one.steps_from(pair[0]), other.steps_from(pair[1]))
    ]

"""The greatest sums of the stretches from forms, for all sets of zones at once."""

from whoseday.graphs import backward, falling_ring, kept_inside, least_costs, reached_from, short_way, traced
from whoseday.tallies import FIGURE, Tallies


class Stretches:
    """All ways in a graph of forms, and what their copies count.

    steps has for each form the tuples (number, pair) of the copies that are
    made of it: the form to which a copy leads, and the zones (head, tail) whose
    offsets it adds, or None. Only zones that stand there matter.

    Sums are lists with a tally for each form. Their figures are greater by 1
    than the sums, so that what counts -1 does not lead below 0.
    """

    def __init__(self, zones, steps):
        used = {zone: True for row in steps for _, pair in row if pair is not None for zone in pair}
        self.tallies = Tallies([zone for zone in zones if zone in used])
        self._steps = steps
        self._rows = [[(goal, self.tallies.counted(pair)) for goal, pair in row] for row in steps]
        self._ahead = backward(self._rows)
        self._sums = None
        self._rising = None
        self._endless = None

    def none_yet(self):
        """The greatest sums behind no copies, and all forms, as those for which they are new."""
        return [self.tallies.ones for _ in self._rows], list(range(len(self._rows)))

    def longer(self, sums, fresh):
        """The greatest sums behind one copy more, and the forms for which they are new, if fresh is told so."""
        found = list(sums)
        new = []
        for number in {ahead: True for goal in fresh for ahead, _ in self._ahead[goal]}:
            best = self._best(sums, number)
            if best != sums[number]:
                found[number] = best
                new.append(number)
        return found, new

    def _best(self, sums, number):
        """The greatest figures of a form, and of those to which copies lead, with what these count."""
        free = self.tallies.free
        best = sums[number]
        for goal, count in self._rows[number]:
            other = sums[goal] + count
            # The free bits stay where the figure of the other one is not less.
            wins = ((other | free) - best) & free
            if wins:
                best = best ^ ((best ^ other) & (wins - (wins >> (FIGURE - 1))))
        return best

    def spread_of(self, number):
        """The greatest sum of the walks from a form; None if there is no greatest one."""
        self._walk_all()
        return None if self._endless[number] else self.tallies.greatest_of(self._sums[number])[0] - 1

    def widest_way(self, number):
        """Zones, a way from a form that counts its spread for them, and []; or a way to a ring that rises, and it."""
        self._walk_all()
        if not self._endless[number]:
            _, high = self.tallies.greatest_of(self._sums[number])
            costs, before = least_costs(costs_for(self._steps, high), number)
            least = min([cost for cost in costs if cost is not None])
            return high, traced(before, number, costs.index(least)), []
        reached = reached_from(self._steps, [number])
        high = self.tallies.unlike([two for goal, two in self._rising.items() if reached[goal]][0])
        rows = kept_inside(costs_for(self._steps, high), reached)
        ring = falling_ring(rows)
        return high, short_way(rows, number, ring[0]), ring

    def _walk_all(self):
        """Finds the greatest sums of all walks, and the forms from which they rise for ever."""
        if self._sums is None:
            self._sums, _ = self.none_yet()
            # Without a ring that counts more than 0 no walk need have more copies than there are forms.
            turns = len(self._rows) + 1
            self._rising = self._risen()
            while self._rising and turns > 0:
                self._rising = self._risen()
                turns -= 1
            self._endless = reached_from(self._ahead, list(self._rising))

    def _risen(self):
        """Makes sums greater by one copy or more; for each form whose sums rise the tallies ahead of it and behind."""
        found = {}
        # Later forms first: most copies lead to them, and what they count is told at once then.
        for number in range(len(self._rows) - 1, -1, -1):
            ahead = self._sums[number]
            best = self._best(self._sums, number)
            if best != ahead:
                found[number] = (ahead, best)
                self._sums[number] = best
        return found


def costs_for(steps, high):
    """The graph in which a step costs what the copy counts for a set of zones, with the sign turned."""
    return [[(goal, -counted(pair, high)) for goal, pair in row] for row in steps]


def counted(pair, high):
    """What a copy with a pair of zones counts for a set of zones: 1, 0 or -1."""
    if pair is None:
        return 0
    return int(pair[0] in high) - int(pair[1] in high)

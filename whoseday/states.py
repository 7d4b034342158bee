"""The states of a point that are reached from a program."""

from whoseday.entries import DAY
from whoseday.errors import BadNumber, NoRoute, TooMany
from whoseday.points import Copier, minutes_of, need_point
from whoseday.words import is_integer

MOST_STATES = 1000


class States:
    """The reached states of a point of an entry that a program holds at first.

    A state is the tuple (program, kind, zone, rest). Members of steps are
    tuples (index, days, name): where a copy leads, by how many days it moves
    the point, and the program that is copied to.
    """

    def __init__(self, net, p, entry, end):
        need_point(net, p, entry, end)
        found, steps = _reached(net, first_state(p, entry, end), end)
        self._net = net
        self._before = _ways(steps)
        self.found = tuple(found)
        self.steps = tuple(steps)

    def __len__(self):
        return len(self.found)

    def __contains__(self, state):
        return self.index_of(state) is not None

    def __iter__(self):
        return iter(self.found)

    def index_of(self, state):
        """The index of a state; None for any value that is none of the states."""
        # No table is asked: any value may come, also one that cannot be a key.
        if isinstance(state, tuple):
            for index, one in enumerate(self.found):
                if one == state:
                    return index
        return None

    def at(self, q):
        """The indices of the states of a program."""
        self._net.home_of(q)
        return tuple([index for index, state in enumerate(self.found) if state[0] == q])

    def lead(self, row):
        """The index of the state at the end of a walk, and the moved days."""
        at = 0
        total = 0
        for index, name in enumerate(row):
            steps = [step for step in self.steps[at] if isinstance(name, str) and step[2] == name]
            if not steps:
                raise NoRoute(index)
            at, days, _ = steps[0]
            total += days
        return at, total

    def way(self, index):
        """The row of a walk with as few copies as possible to a state."""
        if not is_integer(index) or not 0 <= index < len(self.found):
            raise BadNumber(index)
        names = []
        at = index
        while at > 0:
            names.append(self.found[at][0])
            at = self._before[at]
        return tuple(names[::-1])


def first_state(p, entry, end):
    """The state of a point of an entry that a program holds."""
    minutes = minutes_of(entry.kind, entry.last if end == 1 else entry.first)
    return p, entry.kind, entry.zone, minutes % DAY


def state_copy(copier, state, q):
    """The state to which a copy leads from a state, and the days that it moves the point."""
    p, kind, zone, rest = state
    ahead = copier.day(p, kind, zone, rest)
    kind, zone, minutes = copier.carry(q, kind, zone, rest)
    return (q, kind, zone, minutes % DAY), copier.day(q, kind, zone, minutes) - ahead


def names_on(states, way):
    """The row of a way of states: the names of the programs to which the entry is copied."""
    return tuple([states.found[index][0] for index in way[1:]])


def named_blocks(states, blocks):
    """The walk in blocks that ways with times tell; those without copies are left out."""
    return tuple([(names_on(states, way), times) for way, times in blocks if len(way) > 1 and times > 0])


def _reached(net, first, end):
    """The reached states and the steps from each of them, in their order."""
    copier = Copier(net, end)
    targets = {p: net.targets_of(p) for p in net.programs}
    found = [first]
    numbers = {first: 0}
    steps = []
    while len(steps) < len(found):
        state = found[len(steps)]
        row = []
        for q in list(targets[state[0]]):
            goal, days = state_copy(copier, state, q)
            if goal not in numbers:
                if len(found) >= MOST_STATES:
                    raise TooMany(MOST_STATES)
                numbers[goal] = len(found)
                found.append(goal)
            row.append((numbers[goal], days, q))
        steps.append(tuple(row))
    return found, steps


def _ways(steps):
    """For each state the one ahead of it on a shortest way; None for the first one."""
    # The states are listed by the number of copies to them, so the first step
    # to a state, from the least index, is the last one of a shortest way.
    before = [None for _ in steps]
    for at, row in enumerate(steps):
        for index, _, _ in row:
            if index != 0 and before[index] is None:
                before[index] = at
    return before

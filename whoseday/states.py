"""The states of a point that are reached from a program."""

from whoseday.entries import DAY
from whoseday.errors import BadNumber, NoRoute, TooMany
from whoseday.points import clock_lead, minutes_of, need_point, ruled_copy
from whoseday.words import is_integer

MOST_STATES = 1000


class Leads:
    """Where copies lead states of a point, the first or the last one, in a net.

    The states are numbered as they come up, the one to begin with by 0. Each
    answer is kept, as walks come together again. Here a state is told by one
    integer: DAY times the number of its form (program, kind, zone), and its rest.

    If there are choices, copies of these choices tell what can be copied,
    instead of the routes and the rules of the net.
    """

    def __init__(self, net, p, entry, end, choices=None):
        self._net = net
        self._end = end
        self._choices = choices
        self._forms = [(p, entry.kind, entry.zone)]
        self._form_numbers = {self._forms[0]: 0}
        # For each form what _copies_of tells, for each state what steps_from tells.
        self._copies = [None]
        self._steps = [None]
        self._states = [minutes_of(entry.kind, entry.last if end == 1 else entry.first) % DAY]
        self._numbers = {self._states[0]: 0}

    def count_states(self):
        """How many states have come up so far."""
        return len(self._states)

    def state_of(self, number):
        """The state with a number, as a tuple (program, kind, zone, rest)."""
        form, rest = divmod(self._states[number], DAY)
        return (*self._forms[form], rest)

    def program_of(self, number):
        """The program of the state with a number."""
        return self._forms[self._states[number] // DAY][0]

    def steps_from(self, number):
        """The tuples (number, days, name), one for each route: where a copy leads, and how far it moves the point.

        For choices there is one for each of them, with what it is told by in place of the name.
        """
        if self._steps[number] is None:
            form, rest = divmod(self._states[number], DAY)
            self._steps[number] = self._new_steps(form, rest)
        return self._steps[number]

    def _new_steps(self, form, rest):
        if self._copies[form] is None:
            self._copies[form] = self._copies_of(self._forms[form])
        lead, copies = self._copies[form]
        ahead = (rest + lead) // DAY
        row = []
        for goal, more, rounds, behind, name in copies:
            minutes = rest + more
            state = DAY * goal + (0 if rounds else minutes % DAY)
            if state not in self._numbers:
                self._numbers[state] = len(self._states)
                self._states.append(state)
                self._steps.append(None)
            row.append((self._numbers[state], (minutes + behind) // DAY - ahead, name))
        return tuple(row)

    def _copies_of(self, form):
        """How far the clock is ahead of the minutes of points of a form, and what each copy makes of them."""
        p, kind, zone = form
        copies = []
        for q, rule, name in self._rules_from(p, kind):
            later, place, more, rounds = ruled_copy(self._net, q, kind, zone, self._end, rule)
            goal = (q, later, place)
            if goal not in self._form_numbers:
                self._form_numbers[goal] = len(self._forms)
                self._forms.append(goal)
                self._copies.append(None)
            copies.append((self._form_numbers[goal], more, rounds, clock_lead(self._net, q, later, place), name))
        return clock_lead(self._net, p, kind, zone), copies

    def _rules_from(self, p, kind):
        """Tuples (q, rule, name), one for each copy that can be made of a kind at p."""
        if self._choices is not None:
            return self._choices.copies(p, kind)
        return [(q, self._net.rule_of(q, kind), q) for q in self._net.targets_of(p)]


class States:
    """The reached states of a point of an entry that a program holds at first.

    A state is the tuple (program, kind, zone, rest). Members of steps are
    tuples (index, days, name): where a copy leads, by how many days it moves
    the point, and the program that is copied to.
    """

    def __init__(self, net, p, entry, end):
        need_point(net, p, entry, end)
        found, steps = _reached(Leads(net, p, entry, end))
        self._net = net
        self._before = _ways(steps)
        self.found = tuple(found)
        self.steps = tuple(steps)

    def __len__(self):
        return len(self.found)

    def __contains__(self, state):
        return self.index_of(state) is not None

    def __iter__(self):
        return iter(self.found)

    def index_of(self, state):
        """The index of a state; None for any value that is none of the states."""
        # No table is asked: any value may come, also one that cannot be a key.
        if isinstance(state, tuple):
            for index, one in enumerate(self.found):
                if one == state:
                    return index
        return None

    def at(self, q):
        """The indices of the states of a program."""
        self._net.home_of(q)
        return tuple([index for index, state in enumerate(self.found) if state[0] == q])

    def lead(self, row):
        """The index of the state at the end of a walk, and the moved days."""
        at = 0
        total = 0
        for index, name in enumerate(row):
            steps = [step for step in self.steps[at] if isinstance(name, str) and step[2] == name]
            if not steps:
                raise NoRoute(index)
            at, days, _ = steps[0]
            total += days
        return at, total

    def way(self, index):
        """The row of a walk with as few copies as possible to a state."""
        if not is_integer(index) or not 0 <= index < len(self.found):
            raise BadNumber(index)
        names = []
        at = index
        while at > 0:
            names.append(self.found[at][0])
            at = self._before[at]
        return tuple(names[::-1])


def names_on(states, way):
    """The row of a way of states: the names of the programs to which the entry is copied."""
    return tuple([states.found[index][0] for index in way[1:]])


def named_blocks(states, blocks):
    """The walk in blocks that ways with times tell; those without copies are left out."""
    return tuple([(names_on(states, way), times) for way, times in blocks if len(way) > 1 and times > 0])


def _reached(leads):
    """The reached states and the steps from each of them, in their order."""
    steps = []
    while len(steps) < leads.count_states():
        steps.append(leads.steps_from(len(steps)))
        if leads.count_states() > MOST_STATES:
            raise TooMany(MOST_STATES)
    return [leads.state_of(number) for number in range(len(steps))], steps


def _ways(steps):
    """For each state the one ahead of it on a shortest way; None for the first one."""
    # The states are listed by the number of copies to them, so the first step
    # to a state, from the least index, is the last one of a shortest way.
    before = [None for _ in steps]
    for at, row in enumerate(steps):
        for index, _, _ in row:
            if index != 0 and before[index] is None:
                before[index] = at
    return before

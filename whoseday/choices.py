"""The fewest of several choices with which a net holds: changes of rules, or routes less.

What copies depend on is told by bits: one for each rule of a program and a kind
that can be changed, or one for each route. A net has some of these bits. A
fault is told by bits, too: no net that has all of them holds.
"""

from whoseday.bands import wrong_row
from whoseday.errors import TooMany
from whoseday.forms import form_copy
from whoseday.points import need_known
from whoseday.states import MOST_STATES, Leads

# It has all bits.
ALL = -1


class RuleChoices:
    """The rules of a net, and those that changes (program, kind, rule) can put in their places."""

    def __init__(self, net, changes):
        self._net = net
        self._changes = changes
        # For each program and kind with a change the bits of its rules.
        self._bits = {}
        self.at_first = 0
        # For each change the bits that it turns over.
        self.flips = []
        last = 1
        for p, kind, rule in changes:
            own = net.rule_of(p, kind)
            if (p, kind) not in self._bits:
                self._bits[(p, kind)] = {own: last}
                self.at_first += last
                last *= 2
            bits = self._bits[(p, kind)]
            if rule not in bits:
                bits[rule] = last
                last *= 2
            self.flips.append(bits[own] ^ bits[rule])

    def copies(self, p, kind):
        """Tuples (q, rule, bit) of what can be copied from p, by all rules that can be chosen."""
        found = []
        for q in self._net.targets_of(p):
            bits = self._bits.get((q, kind), {self._net.rule_of(q, kind): 0})
            found.extend([(q, rule, bit) for rule, bit in bits.items()])
        return found

    def net_with(self, chosen):
        """The net with some of the changes."""
        return self._net.with_rules({tuple(self._changes[index][:2]): self._changes[index][2] for index in chosen})

    def bit_of(self, route, kind, rule):
        """The bit on which it depends that a kind is copied by a rule along a route; 0 if there is none."""
        return self._bits.get((route[1], kind), {}).get(rule, 0)


class RouteChoices:
    """The routes of a net, each of which can be left out."""

    def __init__(self, net):
        self._net = net
        self._bits = {route: 1 << index for index, route in enumerate(net.routes)}
        self.at_first = sum(list(self._bits.values()))
        self.flips = list(self._bits.values())

    def copies(self, p, kind):
        """Tuples (q, rule, bit) of what can be copied from p."""
        return [(q, self._net.rule_of(q, kind), self._bits[(p, q)]) for q in self._net.targets_of(p)]

    def net_with(self, chosen):
        """The net without some of the routes."""
        return self._net.without_routes([self._net.routes[index] for index in chosen])

    def bit_of(self, route, kind, rule):
        """The bit on which it depends that a kind is copied by a rule along a route."""
        return self._bits[route]


class StateFaults:
    """Faults with the offsets that the net tells."""

    def __init__(self, net, p, entry, choices):
        need_known(net, p, entry)
        self._leads = [Leads(net, p, entry, end, choices) for end in (0, 1)]
        # Whether all choices together lead to few states, so that no net has too many.
        self._few = None

    def fault_of(self, _, bits):
        """A fault of the net with some bits; None if it holds. Raises TooMany(1000) for its states."""
        first, last = [_gone(leads, bits, not self._few) for leads in self._leads]
        if first[1] is None and last[1] is None:
            return None
        if self._few is None:
            self._few = self._has_few()
        if self._few:
            return last[1] if first[1] is None else first[1]
        # Another net with all the bits that were met has the same states, and not too many.
        return first[0] | last[0]

    def _has_few(self):
        try:
            for leads in self._leads:
                _gone(leads, ALL, True)
        except TooMany:
            return False
        return True


class WidthFaults:
    """Faults within a width, for all offsets."""

    def __init__(self, p, entry, width, choices):
        self._p = p
        self._entry = entry
        self._width = width
        self._choices = choices

    def fault_of(self, chosen, _):
        """A fault of the net with some of the choices; None if it holds."""
        net = self._choices.net_with(chosen)
        row = wrong_row(net, self._p, self._entry, self._width)
        if row is None:
            return None
        fault = 0
        p, kind, zone = self._p, self._entry.kind, self._entry.zone
        for q in row:
            fault = fault | self._choices.bit_of((p, q), kind, net.rule_of(q, kind))
            kind, zone, _ = form_copy(net, p, q, kind, zone)
            p = q
        return fault


def fewest(choices, faults):
    """The ascending tuple of the fewest choices, by their indices, with which the net holds; None if there are none.

    Of several such tuples it is the least one. The nets are looked at in this
    order, but for those that have a known fault.
    """
    known = []
    # Of several choices that turn over the same bits the first one is enough, and what turns over none is of no use.
    firsts = {flip: index for index, flip in list(enumerate(choices.flips))[::-1] if flip != 0}
    flips = sorted([(index, flip) for flip, index in firsts.items()])
    level = [((), choices.at_first)]
    while level:
        for chosen, bits in list(level):
            if not any([(fault & bits) == fault for fault in known]):
                fault = faults.fault_of(chosen, bits)
                if fault is None:
                    return chosen
                known.append(fault)
        # What was there at first can be changed once only.
        level = [
            ((*chosen, index), bits ^ flip) for chosen, bits in level for index, flip in flips
            if (not chosen or index > chosen[-1]) and bits & flip & choices.at_first
        ]
    return None


def _gone(leads, bits, whole):
    """The bits that are met on all ways of a net, and those on a short way that moves the point by days, or None.

    Unless the whole net is wanted, no more is looked at than such a way needs.
    Raises TooMany(1000) for the states of a whole net.
    """
    behind = {0: 0}
    line = [0]
    met = 0
    moving = None
    at = 0
    while at < len(line) and (whole or moving is None):
        ahead = behind[line[at]]
        for goal, days, bit in list(leads.steps_from(line[at])):
            if (bit & bits) == bit:
                met = met | bit
                if days != 0 and moving is None:
                    moving = ahead | bit
                if goal not in behind:
                    behind[goal] = ahead | bit
                    line.append(goal)
        at += 1
        if whole and len(line) > MOST_STATES:
            raise TooMany(MOST_STATES)
    return met, moving

"""Where an entry gets its clocks, and how many offsets its copies can add to them."""

from whoseday.copies import clock
from whoseday.entries import DAY
from whoseday.forms import Forms, form_copy
from whoseday.graphs import falling_ring, least_costs, short_way
from whoseday.points import need_known
from whoseday.rules import CLOCKED, LAST_MINUTE
from whoseday.stretches import Stretches, costs_for, counted
from whoseday.unknown import need_zone


class Origin:
    """Where an entry gets its clocks, and the minutes of the day that they show there."""

    def __init__(self, program, kind, zone, first, last):
        self.program = program
        self.kind = kind
        self.zone = zone
        self.first = first
        self.last = last

    def __eq__(self, other):
        return (
            isinstance(other, Origin) and self.program == other.program and self.kind == other.kind
            and self.zone == other.zone and self.first == other.first and self.last == other.last
        )

    @property
    def room(self):
        """How far both clocks are from the minutes of another day, at least."""
        return min(self.first, LAST_MINUTE - self.first, self.last, LAST_MINUTE - self.last)


class Course:
    """What becomes of an entry at p over all walks, for all offsets: its forms, and its origins in their order.

    births are tuples (origin, form, holder, copies): the number of the origin's
    form, that of the form of the day of which it is made, or None, and the
    least number of copies behind which it comes about.
    """

    def __init__(self, net, p, entry):
        self._zones = net.zones
        self._forms = Forms(net, [(p, entry.kind, entry.zone)], True)
        self._stretches = None
        self.births = []
        born = self._born()
        if entry.kind != "day":
            first, last = clock(net, p, entry)
            self.births.append((Origin(p, entry.kind, entry.zone, first % DAY, last % DAY), 0, None, 0))
        for q in net.programs:
            if q in born:
                number, holder, copies = born[q]
                kind, early, late = net.rule_of(q, "day").split(" ")
                origin = Origin(q, kind, net.home_of(q) if kind == "zoned" else None, int(early), int(late))
                self.births.append((origin, number, holder, copies))

    def stretches(self):
        """The Stretches of all forms with clocks."""
        if self._stretches is None:
            clocked = [[] if form[1] == "day" else row for form, row in zip(self._forms.found, self._forms.steps)]
            self._stretches = Stretches(self._zones, clocked)
        return self._stretches

    def spread_births(self):
        """The births, each with the spread of its origin."""
        stretches = self.stretches()
        return [(birth, stretches.spread_of(birth[1])) for birth in self.births]

    def row_to(self, birth):
        """The row of a walk by which an origin comes about."""
        origin, _, holder, _ = birth
        if holder is None:
            return ()
        return (*self._forms.row_on(short_way(self._forms.steps, 0, holder)), origin.program)

    def row_on(self, way):
        """The names of the programs to which the entry is copied on a way of forms."""
        return self._forms.row_on(way)

    def _born(self):
        """For each program that makes clocks of days (form, holder, copies) as births tell them."""
        # The forms are found by the number of copies to them.
        copies = {0: 0}
        born = {}
        for number, row in enumerate(self._forms.steps):
            for goal, _ in row:
                copies.setdefault(goal, copies[number] + 1)
                q, kind, _ = self._forms.found[goal]
                if kind != "day" and self._forms.found[number][1] == "day":
                    born.setdefault(q, (goal, number, copies[number] + 1))
        return born


def origins(net, p, entry):
    """The origins of an entry at p: the beginning first, unless it is a day, then the others."""
    need_known(net, p, entry)
    return [birth[0] for birth in Course(net, p, entry).births]


def spread(net, p, kind, zone):
    """The greatest sum of all stretches for all sets of zones; None if there is no greatest one."""
    net.home_of(p)
    need_zone(net, kind, zone)
    return Stretches(net.zones, Forms(net, [(p, kind, zone)], False).steps).spread_of(0)


def sums(net, p, kind, zone, high):
    """The greatest sums for one set of zones by (program, kind, zone) at the end of the stretches."""
    net.home_of(p)
    need_zone(net, kind, zone)
    for name in high:
        net.offset_of(name)
    forms = Forms(net, [(p, kind, zone)], False)
    rows = costs_for(forms.steps, high)
    if falling_ring(rows) is not None:
        return None
    costs, _ = least_costs(rows, 0)
    return {form: -cost for form, cost in zip(forms.found, costs)}


def spread_walk(net, p, kind, zone):
    """A set of zones, a stretch with the greatest sum and (), or else a way and a ring that rises."""
    net.home_of(p)
    need_zone(net, kind, zone)
    forms = Forms(net, [(p, kind, zone)], False)
    high, way, ring = Stretches(net.zones, forms.steps).widest_way(0)
    return high, forms.row_on(way), forms.row_on(ring)


def spread_table(net):
    """The spreads of all programs and kinds with clocks; zoned is in the home of the program."""
    keys = [(p, kind) for p in net.programs for kind in CLOCKED]
    starts = [(p, kind, net.home_of(p) if kind == "zoned" else None) for p, kind in keys]
    stretches = Stretches(net.zones, Forms(net, starts, False).steps)
    return {key: stretches.spread_of(number) for number, key in enumerate(keys)}


def stretch_sum(net, form, row, high):
    """The sum of a stretch of a form for a set of zones, and the form at its end."""
    p, kind, zone = form
    total = 0
    for q in row:
        kind, zone, pair = form_copy(net, p, q, kind, zone)
        total += counted(pair, high)
        p = q
    return total, (p, kind, zone)

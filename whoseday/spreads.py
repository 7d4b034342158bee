"""Where an entry gets its clocks, and how many offsets its copies can add to them."""

from whoseday.copies import clock
from whoseday.entries import DAY
from whoseday.forms import Forms, day_makers, form_copy
from whoseday.graphs import backward, falling_ring, kept_inside, least_costs, reached_from, short_way, traced
from whoseday.points import need_known
from whoseday.rules import CLOCKED, LAST_MINUTE
from whoseday.unknown import need_zone


class Origin:
    """Where an entry gets its clocks, and the minutes of the day that they show there."""

    def __init__(self, program, kind, zone, first, last):
        self.program = program
        self.kind = kind
        self.zone = zone
        self.first = first
        self.last = last

    def __eq__(self, other):
        return (
            isinstance(other, Origin) and self.program == other.program and self.kind == other.kind
            and self.zone == other.zone and self.first == other.first and self.last == other.last
        )

    @property
    def room(self):
        """How far both clocks are from the minutes of another day, at least."""
        return min(self.first, LAST_MINUTE - self.first, self.last, LAST_MINUTE - self.last)


def origins(net, p, entry):
    """The origins of an entry at p: the beginning first, unless it is a day, then the others."""
    need_known(net, p, entry)
    found = []
    if entry.kind != "day":
        first, last = clock(net, p, entry)
        found.append(Origin(p, entry.kind, entry.zone, first % DAY, last % DAY))
    forms = Forms(net, [(p, entry.kind, entry.zone)], True)
    for q in day_makers(net, forms.found):
        kind, early, late = net.rule_of(q, "day").split(" ")
        found.append(Origin(q, kind, net.home_of(q) if kind == "zoned" else None, int(early), int(late)))
    return found


def spread(net, p, kind, zone):
    """The greatest sum of all stretches for all sets of zones; None if there is no greatest one."""
    net.home_of(p)
    need_zone(net, kind, zone)
    return spreads_of(net, [(p, kind, zone)])[0]


def sums(net, p, kind, zone, high):
    """The greatest sums for one set of zones by (program, kind, zone) at the end of the stretches."""
    net.home_of(p)
    need_zone(net, kind, zone)
    for name in high:
        net.offset_of(name)
    forms = Forms(net, [(p, kind, zone)], False)
    rows = form_costs(forms, high)
    if falling_ring(rows) is not None:
        return None
    costs, _ = least_costs(rows, 0)
    return {form: -cost for form, cost in zip(forms.found, costs)}


def spread_walk(net, p, kind, zone):
    """A set of zones, a stretch with the greatest sum and (), or else a way and a ring that rises."""
    net.home_of(p)
    need_zone(net, kind, zone)
    forms = Forms(net, [(p, kind, zone)], False)
    best = (1, None, None)
    for high in sets_of(net.zones):
        rows = form_costs(forms, high)
        ring = falling_ring(rows)
        if ring is not None:
            return high, forms.row_on(short_way(rows, 0, ring[0])), forms.row_on(ring)
        costs, before = least_costs(rows, 0)
        if min(costs) < best[0]:
            best = (min(costs), high, traced(before, 0, costs.index(min(costs))))
    return best[1], forms.row_on(best[2]), ()


def spread_table(net):
    """The spreads of all programs and kinds with clocks; zoned is in the home of the program."""
    keys = [(p, kind) for p in net.programs for kind in CLOCKED]
    starts = [(p, kind, net.home_of(p) if kind == "zoned" else None) for p, kind in keys]
    return {key: found for key, found in zip(keys, spreads_of(net, starts))}


def spreads_of(net, starts):
    """The spreads of some forms (program, kind, zone) with clocks, one after the other."""
    forms = Forms(net, starts, False)
    best = [0 for _ in forms.found]
    for high in sets_of(net.zones):
        for node, found in enumerate(_greatest(form_costs(forms, high))):
            known = best[node]
            best[node] = None if known is None or found is None else max(known, found)
    return best[:len(starts)]


def stretch_sum(net, form, row, high):
    """The sum of a stretch of a form for a set of zones, and the form at its end."""
    p, kind, zone = form
    total = 0
    for q in row:
        kind, zone, pair = form_copy(net, p, q, kind, zone)
        total += counted(pair, high)
        p = q
    return total, (p, kind, zone)


def counted(pair, high):
    """What a copy with a pair of zones counts for a set of zones: 1, 0 or -1."""
    if pair is None:
        return 0
    return int(pair[0] in high) - int(pair[1] in high)


def form_costs(forms, high):
    """The graph of forms in which a step costs what the copy counts, with the sign turned."""
    return [[(index, -counted(pair, high)) for index, pair in row] for row in forms.steps]


def sets_of(zones):
    """All sets of zones, as tuples."""
    found = [()]
    for zone in zones:
        found = found + [(*one, zone) for one in found]
    return found


def _greatest(rows):
    """For each node the greatest sum of a way from it; None if there is none, as rings make it ever greater."""
    bounded = [True for _ in rows]
    left = rows
    ring = falling_ring(left)
    while ring is not None:
        leading = reached_from(backward(rows), ring)
        bounded = [was and not leads for was, leads in zip(bounded, leading)]
        left = kept_inside(rows, bounded)
        ring = falling_ring(left)
    # One node more, from which all ways backward begin.
    turned = backward(left)
    costs, _ = least_costs([*turned, [(node, 0) for node in range(len(rows))]], len(rows))
    return [-cost if ok else None for cost, ok in zip(costs, bounded)]

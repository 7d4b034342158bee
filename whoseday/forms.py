"""What copies make of the form of an entry: the program that holds it, its kind and its zone.

What becomes of a form does not depend on the offsets; which offsets a copy
adds to the clock does not depend on the values.
"""

from whoseday.points import point_copy
from whoseday.rules import KEEP

OWN = ("own day", "own float", "as if")


class Forms:
    """The forms to which copies lead from some forms, and the steps between them.

    found are the tuples (program, kind, zone), those to start with first. For
    each of them steps has a list of tuples (index, pair): where a copy leads,
    and the pair that form_copy tells. A day is copied only if past_days.
    """

    def __init__(self, net, starts, past_days):
        self.found = list(starts)
        self.steps = []
        numbers = {form: index for index, form in enumerate(self.found)}
        while len(self.steps) < len(self.found):
            p, kind, zone = self.found[len(self.steps)]
            row = []
            for q in list(net.targets_of(p)) if past_days or kind != "day" else []:
                later, place, pair = form_copy(net, p, q, kind, zone)
                form = (q, later, place)
                if form not in numbers:
                    numbers[form] = len(self.found)
                    self.found.append(form)
                row.append((numbers[form], pair))
            self.steps.append(row)

    def row_on(self, way):
        """The names of the programs to which the entry is copied on a way of forms."""
        return tuple([self.found[index][0] for index in way[1:]])


def form_copy(net, p, q, kind, zone):
    """Kind and zone of what q copies from p, and the pair (head, tail) of zones, or None.

    The clock at q is the clock at p plus the offset of head less that of tail.
    """
    later, place, _, _ = point_copy(net, q, kind, zone, 0)
    if kind in ("day", "float"):
        return later, place, None
    head = zone if kind == "zoned" and net.rule_of(q, kind) in OWN else net.home_of(q)
    tail = net.home_of(p)
    return later, place, None if head == tail else (head, tail)


def day_makers(net, forms):
    """The programs that make clocks of the days among forms, in the order of the net."""
    found = {}
    for form in forms:
        if form[1] == "day":
            for q in net.targets_of(form[0]):
                if net.rule_of(q, "day") != KEEP:
                    found[q] = True
    return [q for q in net.programs if q in found]

"""What copies make of the form of an entry: the program that holds it, its kind and its zone.

What becomes of a form does not depend on the offsets; which offsets a copy
adds to the clock does not depend on the values.
"""

from whoseday.rules import KEEP, kind_made

OWN = ("own day", "own float", "as if")


class Forms:
    """The forms to which copies lead from some forms, and the steps between them.

    found are the tuples (program, kind, zone), those to start with first, and
    numbers leads from them to their places. For each of them steps has a list
    of tuples (number, pair): where a copy leads, and the pair that form_copy
    tells. A day is copied only if past_days.
    """

    def __init__(self, net, starts, past_days):
        self.found = list(starts)
        self.numbers = {form: number for number, form in enumerate(self.found)}
        self.steps = []
        while len(self.steps) < len(self.found):
            p, kind, zone = self.found[len(self.steps)]
            row = []
            for q in list(net.targets_of(p)) if past_days or kind != "day" else []:
                later, place, pair = form_copy(net, p, q, kind, zone)
                form = (q, later, place)
                if form not in self.numbers:
                    self.numbers[form] = len(self.found)
                    self.found.append(form)
                row.append((self.numbers[form], pair))
            self.steps.append(row)

    def row_on(self, way):
        """The names of the programs to which the entry is copied on a way of forms."""
        return tuple([self.found[number][0] for number in way[1:]])


def form_copy(net, p, q, kind, zone):
    """Kind and zone of what q copies from p, and the pair (head, tail) of zones, or None.

    The clock at q is the clock at p plus the offset of head less that of tail.
    """
    rule = net.rule_of(q, kind)
    home = net.home_of(q)
    later = kind_made(kind, rule)
    place = zone if rule == KEEP else home if later == "zoned" else None
    if kind in ("day", "float"):
        return later, place, None
    head = zone if kind == "zoned" and rule in OWN else home
    tail = net.home_of(p)
    return later, place, None if head == tail else (head, tail)

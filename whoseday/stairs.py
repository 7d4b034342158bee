"""Behind how many copies a net is right for all offsets at once, and within which width."""

from whoseday.bands import MOST_WIDTH
from whoseday.days import MOST_COPIES
from whoseday.forms import Forms
from whoseday.points import need_known
from whoseday.spreads import form_costs, origins, sets_of
from whoseday.words import need_number


def right_copies(net, p, entry, width):
    """The greatest number of copies behind which the net is right within a width; None if it is right."""
    need_known(net, p, entry)
    need_number(width, 0, MOST_WIDTH)
    if width == 0:
        return None
    births = _births(net, p, entry)
    # By how much the clocks of each origin have to move, in widths, to be on another day.
    starts = {}
    for node, (origin, copies) in enumerate(births):
        starts.setdefault(copies, []).append((node, origin.room // width + 1))
    forms = _stretches(net, births)
    best = None
    for high in sets_of(net.zones):
        found = _copies_down(form_costs(forms, high), starts, best)
        if found is not None:
            best = found
    return None if best is None else best - 1


def widest_after(net, p, entry, n):
    """The greatest width within which the net is right behind n copies; None if it is so within all."""
    need_known(net, p, entry)
    need_number(n, 0, MOST_COPIES)
    births = _births(net, p, entry)
    forms = _stretches(net, births)
    most = [0 for _ in births]
    for high in sets_of(net.zones):
        rows = form_costs(forms, high)
        sums = [0 for _ in rows]
        # An origin that comes about behind some copies has the others for its stretches.
        for copies in range(n, -1, -1):
            for node, birth in enumerate(births):
                if birth[1] == copies:
                    most[node] = max(most[node], sums[node])
            sums = [max([sums[node], *[sums[goal] - cost for goal, cost in row]]) for node, row in enumerate(rows)]
    return min([origin.room // found for (origin, _), found in zip(births, most) if found > 0], default=None)


def _births(net, p, entry):
    """The origins of the entry, each with the least number of copies behind which it comes about."""
    forms = Forms(net, [(p, entry.kind, entry.zone)], True)
    # The forms are found by the number of copies to them.
    copies = {0: 0}
    born = {}
    for index, (holder, kind, _) in enumerate(forms.found):
        for goal, _ in forms.steps[index]:
            copies.setdefault(goal, copies[index] + 1)
        for q in net.targets_of(holder) if kind == "day" else ():
            born.setdefault(q, copies[index] + 1)
    found = []
    for number, origin in enumerate(origins(net, p, entry)):
        at_first = number == 0 and entry.kind != "day"
        found.append((origin, 0 if at_first else born[origin.program]))
    return found


def _stretches(net, births):
    """The forms of all stretches of origins; those of the origins come first, in their order."""
    return Forms(net, [(origin.program, origin.kind, origin.zone) for origin, _ in births], False)


def _copies_down(rows, starts, most):
    """The least number of copies, below most, that take off all that a start has; None if there is none.

    starts leads from numbers of copies to the pairs (node, what it has) that
    come about behind so many. What costs less than 0 is taken off.
    """
    least = [None for _ in rows]
    last = max(list(starts), default=0)
    front = {}
    copies = 0
    while (front or copies <= last) and (most is None or copies + 1 < most):
        for node, left in starts.get(copies, ()):
            if least[node] is None or left < least[node]:
                least[node] = left
                front[node] = left
        later = {}
        for node, left in list(front.items()):
            for goal, cost in list(rows[node]):
                # What is left with fewer copies, and not more of it, is as good.
                if least[goal] is None or left + cost < least[goal]:
                    least[goal] = left + cost
                    later[goal] = left + cost
                    if left + cost == 0:
                        return copies + 1
        front = later
        copies += 1
    return None

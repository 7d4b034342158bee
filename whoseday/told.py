"""Which offsets the zones of a net can have, told back by what was seen at the end of walks."""

from whoseday.bounds import Bounds
from whoseday.copies import need_walk
from whoseday.entries import DAY, Entry
from whoseday.errors import BadLook, NotTogether, TooMany, TooWide
from whoseday.forms import form_copy
from whoseday.points import minutes_of
from whoseday.rules import KEEP
from whoseday.words import is_integer, need_number

MOST_LOOKS = 60


class Told:
    """All offsets of the zones of a net with which looks come out. Callers do not make it."""

    def __init__(self, net, bounds):
        self._net = net
        self._bounds = bounds

    def lowest(self, zone):
        """The least offset that a zone can have."""
        self._net.offset_of(zone)
        return self._bounds.low_of(zone, None)

    def highest(self, zone):
        """The greatest offset that a zone can have."""
        self._net.offset_of(zone)
        return self._bounds.high_of(zone, None)

    def between(self, first, second):
        """The least and the greatest number that one offset less another one can be."""
        self._net.offset_of(first)
        self._net.offset_of(second)
        return self._bounds.low_of(first, second), self._bounds.high_of(first, second)

    def some(self):
        """Offsets of all zones that fit together."""
        # The greatest ones fit, as what bounds one by another one bounds it, too.
        return {zone: self._bounds.high_of(zone, None) for zone in self._net.zones}

    def days(self, entry, walk, end):
        """The least and the greatest day on which the point can be shown at the end of a walk."""
        need_walk(self._net, walk, entry)
        need_number(end, 0, 1)
        found = _clock_sum(self._net, walk, entry, end)
        if found is None:
            raise TooWide(0)
        minutes, head, tail = found
        low = minutes + self._bounds.low_of(head, tail)
        high = minutes + self._bounds.high_of(head, tail)
        return low // DAY, high // DAY


def told_back(net, looks):
    """The Told of all offsets with which each look comes out as it was seen."""
    if len(looks) > MOST_LOOKS:
        raise TooMany(MOST_LOOKS)
    lines = []
    for index, look in enumerate(looks):
        if not _is_look(look):
            raise BadLook(index)
        entry, walk, end, what, number = look
        need_walk(net, walk, entry)
        if what == "clock" and _kind_at_end(net, walk, entry) == "day":
            raise BadLook(index)
        found = _clock_sum(net, walk, entry, end)
        if found is None:
            raise TooWide(index)
        lines.append(_line(found, what, number))
    bounds = Bounds(net.zones, lines)
    if not bounds.agree():
        raise NotTogether(_least_looks(net, lines))
    return Told(net, bounds)


def _is_look(look):
    """Tells whether any value is a look, whatever its walk and its zone are."""
    if not isinstance(look, (tuple, list)) or len(look) != 5:
        return False
    entry, walk, end, what, number = look
    if not isinstance(entry, Entry) or not isinstance(walk, (tuple, list)):
        return False
    if not is_integer(end) or end not in (0, 1) or not is_integer(number):
        return False
    return isinstance(what, str) and what in ("clock", "day")


def _line(found, what, number):
    """The line of bounds (low, high, head, tail) that a look tells."""
    minutes, head, tail = found
    if what == "clock":
        return number - minutes, number - minutes, head, tail
    low = DAY * number - minutes
    return low, low + DAY - 1, head, tail


def _least_looks(net, lines):
    """The indices of looks that cannot come out together, though all but any one of them can."""
    left = list(range(len(lines)))
    for index in range(len(lines)):
        others = [one for one in left if one != index]
        if not Bounds(net.zones, [lines[one] for one in others]).agree():
            left = others
    return tuple(left)


def _kind_at_end(net, walk, entry):
    """The kind of the entry that is held at the end of a walk."""
    kind, zone = entry.kind, entry.zone
    for place in range(1, len(walk)):
        kind, zone, _ = form_copy(net, walk[place - 1], walk[place], kind, zone)
    return kind


def _clock_sum(net, walk, entry, end):
    """Minutes and zones: the shown clock at the end of a walk is the minutes, more by head and less by tail.

    A day shows its minutes. None if the walk is not narrow.
    """
    kind, zone = entry.kind, entry.zone
    minutes = minutes_of(kind, entry.last if end == 1 else entry.first)
    pairs = [_first_pair(net, walk[0], kind, zone)]
    for place in range(1, len(walk)):
        q = walk[place]
        rule = net.rule_of(q, kind)
        later, where, pair = form_copy(net, walk[place - 1], q, kind, zone)
        if later == "day" and kind != "day":
            return None
        if kind == "day" and rule != KEEP:
            minutes += int(rule.split(" ")[1 + end])
        pairs.append(pair)
        kind, zone = later, where
    factors = _factors(pairs)
    heads = [name for name, factor in factors.items() if factor == 1]
    tails = [name for name, factor in factors.items() if factor == -1]
    others = [name for name, factor in factors.items() if factor not in (-1, 0, 1)]
    if others or len(heads) > 1 or len(tails) > 1:
        return None
    return minutes, heads[0] if heads else None, tails[0] if tails else None


def _first_pair(net, p, kind, zone):
    """The zones whose offsets make the shown clock at a program of a value."""
    if kind == "fixed":
        return net.home_of(p), None
    return (net.home_of(p), zone) if kind == "zoned" else None


def _factors(pairs):
    """How often each offset is added, less how often it is taken off."""
    found = {}
    for pair in pairs:
        if pair is not None:
            found[pair[0]] = found.get(pair[0], 0) + 1
            found[pair[1]] = found.get(pair[1], 0) - 1
    return {zone: factor for zone, factor in found.items() if zone is not None}

"""One point of an entry at a program, and what a copy makes of it.

Here a point is told by minutes: those of its value, and 1440 * d for a day d.
So a copy adds minutes to a point and then, if it makes a day of it, goes back
to the beginning of the day.
"""

from whoseday.entries import DAY
from whoseday.rules import KEEP
from whoseday.words import need_number


class Copier:
    """What copies do with one point, the first or the last one, in a net.

    Each answer is kept, as the same copies are asked for again and again.
    """

    def __init__(self, net, end):
        self._net = net
        self._end = end
        self._effects = {}
        self._leads = {}

    def effect(self, q, kind, zone):
        """What point_copy tells, for the end of this copier."""
        key = (q, kind, zone)
        if key not in self._effects:
            self._effects[key] = point_copy(self._net, q, kind, zone, self._end)
        return self._effects[key]

    def lead(self, p, kind, zone):
        """What clock_lead tells."""
        key = (p, kind, zone)
        if key not in self._leads:
            self._leads[key] = clock_lead(self._net, p, kind, zone)
        return self._leads[key]

    def carry(self, q, kind, zone, minutes):
        """Kind, zone and minutes of the point that the program q copies."""
        kind, zone, more, rounds = self.effect(q, kind, zone)
        minutes += more
        return kind, zone, minutes - minutes % DAY if rounds else minutes

    def day(self, p, kind, zone, minutes):
        """The day on which the point shows at a program."""
        return (minutes + self.lead(p, kind, zone)) // DAY


def minutes_of(kind, value):
    """The minutes that stand for a value."""
    return DAY * value if kind == "day" else value


def value_of(kind, minutes):
    """The value for which minutes stand."""
    return minutes // DAY if kind == "day" else minutes


def clock_lead(net, p, kind, zone):
    """How many minutes the shown clock at a program is ahead of a point's minutes."""
    if kind == "fixed":
        return net.offset_of(net.home_of(p))
    if kind == "zoned":
        return net.offset_of(net.home_of(p)) - net.offset_of(zone)
    return 0


def point_copy(net, q, kind, zone, end):
    """What the program q makes of a point: (kind, zone, minutes to add, whether it rounds)."""
    return ruled_copy(net, q, kind, zone, end, net.rule_of(q, kind))


def ruled_copy(net, q, kind, zone, end, rule):
    """What the program q makes of a point by a rule for its kind."""
    home = net.home_of(q)
    if rule == KEEP:
        return kind, zone, 0, False
    if kind == "day":
        target, *hours = rule.split(" ")
        more = int(hours[end]) - (net.offset_of(home) if target == "fixed" else 0)
    else:
        target, more = _target_and_more(net, home, kind, zone, rule)
    return target, home if target == "zoned" else None, more, target == "day"


def need_known(net, p, entry):
    """Raises NoProgram(p), then NoZone(zone) for the zone of the entry."""
    net.home_of(p)
    if entry.kind == "zoned":
        net.offset_of(entry.zone)


def need_point(net, p, entry, end):
    """Raises what need_known does, then BadNumber(end)."""
    need_known(net, p, entry)
    need_number(end, 0, 1)


def _target_and_more(net, home, kind, zone, rule):
    """The kind that a rule makes of a clock, and the minutes that it adds."""
    here = net.offset_of(home)
    if kind == "float":
        return rule, -here if rule == "fixed" else 0
    if kind == "fixed":
        return rule, here
    there = net.offset_of(zone)
    if rule == "fixed":
        return "fixed", -there
    if rule in ("as if", "moved"):
        return "zoned", 0 if rule == "as if" else here - there
    whose, _, target = rule.partition(" ")
    return target, 0 if whose == "own" else here - there

"""Nets of zones, programs and routes."""

from whoseday.entries import is_kind
from whoseday.errors import BadKind, BadName, BadNumber, BadRule, NoProgram, NoZone, TooMany
from whoseday.parts import MOST_PROGRAMS, MOST_ROUTES, MOST_ZONES, is_offset, net_text, read_parts
from whoseday.rules import KEEP, is_rule
from whoseday.words import is_name


class Net:
    """The net with a text; it never changes."""

    def __init__(self, text):
        parts = read_parts(text)
        self._offsets = parts.offsets
        self._homes = parts.homes
        self._rules = parts.rules
        self.zones = tuple(parts.offsets)
        self.programs = tuple(parts.homes)
        self.routes = tuple(parts.routes)
        self._targets = _goals_by_start(self.programs, self.routes)
        self.text = net_text(parts.offsets, parts.homes, parts.rules, self.routes)

    def __eq__(self, other):
        return isinstance(other, Net) and self.text == other.text

    def offset_of(self, zone):
        """The offset of a zone."""
        self._need_zone(zone)
        return self._offsets[zone]

    def home_of(self, p):
        """The name of the home of a program."""
        self._need_program(p)
        return self._homes[p]

    def targets_of(self, p):
        """The programs to which routes lead from a program, in their order."""
        self._need_program(p)
        return self._targets[p]

    def rule_of(self, p, kind):
        """The rule of a program for a kind, as it stands behind the arrow."""
        self._need_program(p)
        _need_kind(kind)
        return self._rules.get((p, kind), KEEP)

    def with_zone(self, name, offset):
        """The net with one zone more."""
        if not is_name(name) or name in self._offsets:
            raise BadName(name)
        _need_offset(offset)
        if len(self.zones) >= MOST_ZONES:
            raise TooMany(MOST_ZONES)
        return self.with_offsets({**self._offsets, name: offset})

    def with_offset(self, zone, offset):
        """The net with another offset of a zone."""
        self._need_zone(zone)
        _need_offset(offset)
        return self.with_offsets({**self._offsets, zone: offset})

    def with_program(self, name, home):
        """The net with one program more, which keeps all kinds."""
        if not is_name(name) or name in self._homes:
            raise BadName(name)
        self._need_zone(home)
        if len(self.programs) >= MOST_PROGRAMS:
            raise TooMany(MOST_PROGRAMS)
        return self._with_homes({**self._homes, name: home})

    def without_program(self, p):
        """The net without a program and all its routes."""
        self._need_program(p)
        homes = {name: home for name, home in self._homes.items() if name != p}
        routes = [route for route in self.routes if p not in route]
        # net_text passes over the rules of programs that homes lacks.
        return Net(net_text(self._offsets, homes, self._rules, routes))

    def with_home(self, p, zone):
        """The net with another home of a program."""
        self._need_program(p)
        self._need_zone(zone)
        return self._with_homes({**self._homes, p: zone})

    def with_rule(self, p, kind, rule):
        """The net with another rule of a program for a kind."""
        self._need_program(p)
        _need_kind(kind)
        if not is_rule(kind, rule):
            raise BadRule(rule)
        return self.with_rules({(p, kind): rule})

    def with_route(self, p, q):
        """The net with one route more, if it lacks it."""
        self._need_program(p)
        self._need_program(q)
        if (p, q) in self.routes:
            return self._with_routes(self.routes)
        if len(self.routes) >= MOST_ROUTES:
            raise TooMany(MOST_ROUTES)
        return self._with_routes((*self.routes, (p, q)))

    def without_route(self, p, q):
        """The net without a route, if it has it."""
        self._need_program(p)
        self._need_program(q)
        return self.without_routes([(p, q)])

    def with_offsets(self, offsets):
        """The net with other zones and offsets, {zone: offset}, if it can have them."""
        return Net(net_text(offsets, self._homes, self._rules, self.routes))

    def with_rules(self, rules):
        """The net with other rules, {(program, kind): rule}, if it can have them."""
        return Net(net_text(self._offsets, self._homes, {**self._rules, **rules}, self.routes))

    def without_routes(self, routes):
        """The net without some routes."""
        return self._with_routes([route for route in self.routes if route not in routes])

    def _with_homes(self, homes):
        return Net(net_text(self._offsets, homes, self._rules, self.routes))

    def _with_routes(self, routes):
        return Net(net_text(self._offsets, self._homes, self._rules, routes))

    def _need_zone(self, zone):
        if not isinstance(zone, str) or zone not in self._offsets:
            raise NoZone(zone)

    def _need_program(self, p):
        if not isinstance(p, str) or p not in self._homes:
            raise NoProgram(p)


def _goals_by_start(programs, routes):
    """For each program those to which routes lead from it, in their order."""
    found = {p: [] for p in programs}
    for start, goal in routes:
        found[start].append(goal)
    return {p: tuple(goals) for p, goals in found.items()}


def _need_kind(kind):
    if not is_kind(kind):
        raise BadKind(kind)


def _need_offset(offset):
    if not is_offset(offset):
        raise BadNumber(offset)

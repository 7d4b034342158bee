"""What a net consists of, read from its text and written as its text."""

from whoseday.entries import KINDS, is_kind
from whoseday.errors import BadText
from whoseday.rules import KEEP, is_rule
from whoseday.words import is_integer, is_name, number_in

MOST_ZONES = 6
MOST_PROGRAMS = 12
MOST_ROUTES = 40
MOST_OFFSET = 840


class Parts:
    """The parts of a net, line by line: each line is taken only if it can stand.

    offsets leads from a zone to its offset, homes from a program to its zone,
    rules from (program, kind) to the rule, also a written `keep`; the keys of
    routes are the pairs (from, to). All of them are in the order of the lines.
    """

    def __init__(self):
        self.offsets = {}
        self.homes = {}
        self.rules = {}
        self.routes = {}

    def take(self, line):
        """Takes a line behind the earlier ones; False if it cannot stand there."""
        words = line.split(" ")
        if words[0] == "zone":
            return self.take_zone(words)
        if words[0] == "program":
            return self.take_program(words)
        if words[0] == "route":
            return self.take_route(words)
        return self.take_rule(line)

    def take_zone(self, words):
        """Takes the line `zone NAME OFFSET`."""
        if len(words) != 3 or self.homes or len(self.offsets) >= MOST_ZONES:
            return False
        _, name, figures = words
        offset = number_in(figures)
        if not is_name(name) or name in self.offsets or not is_offset(offset):
            return False
        self.offsets[name] = offset
        return True

    def take_program(self, words):
        """Takes the line `program NAME at HOME`."""
        if len(words) != 4 or words[2] != "at" or self.routes or len(self.homes) >= MOST_PROGRAMS:
            return False
        _, name, _, home = words
        if not is_name(name) or name in self.homes or home not in self.offsets:
            return False
        self.homes[name] = home
        return True

    def take_rule(self, line):
        """Takes the line `  KIND -> RULE`, which belongs to the last program."""
        if not line.startswith("  ") or not self.homes or self.routes:
            return False
        kind, _, rule = line[2:].partition(" -> ")
        if not is_kind(kind) or not is_rule(kind, rule):
            return False
        key = (list(self.homes)[-1], kind)
        if key in self.rules:
            return False
        self.rules[key] = rule
        return True

    def take_route(self, words):
        """Takes the line `route FROM TO`."""
        if len(words) != 3 or len(self.routes) >= MOST_ROUTES:
            return False
        _, start, goal = words
        if start not in self.homes or goal not in self.homes or (start, goal) in self.routes:
            return False
        self.routes[(start, goal)] = True
        return True


def is_offset(value):
    """Tells whether any value is an integer that can be the offset of a zone."""
    return is_integer(value) and -MOST_OFFSET <= value <= MOST_OFFSET


def read_parts(text):
    """The Parts that a text tells; BadText(line) for the first wrong line."""
    parts = Parts()
    # The net of nothing has no lines, not one empty line.
    if text == "":
        return parts
    for number, line in enumerate(text.split("\n"), start=1):
        if not parts.take(line):
            raise BadText(number)
    return parts


def net_text(offsets, homes, rules, routes):
    """The text of the net with these parts; routes goes over pairs."""
    lines = [f"zone {zone} {offset}" for zone, offset in offsets.items()]
    for program, home in homes.items():
        lines.append(f"program {program} at {home}")
        lines.extend(_rule_lines(program, rules))
    lines.extend([f"route {start} {goal}" for start, goal in routes])
    return "\n".join(lines)


def _rule_lines(program, rules):
    found = [(kind, rules.get((program, kind), KEEP)) for kind in KINDS]
    return [f"  {kind} -> {rule}" for kind, rule in found if rule != KEEP]

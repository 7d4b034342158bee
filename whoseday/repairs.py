"""Which changes of rules, or which routes less, let an entry stay on its days."""

from whoseday.bands import is_right
from whoseday.choices import RouteChoices, RuleChoices, StateFaults, WidthFaults, fewest
from whoseday.entries import is_kind
from whoseday.errors import BadChange, TooMany
from whoseday.rules import is_rule
from whoseday.states import States

MOST_CHANGES = 8
MOST_CUT = 10


def holds(net, p, entry, width=None):
    """Tells whether both points stay on their days on all walks, within a width if there is one."""
    if width is not None:
        return is_right(net, p, entry, width)
    both = [States(net, p, entry, end) for end in (0, 1)]
    return not any([days != 0 for states in both for row in states.steps for _, days, _ in row])


def repair(net, p, entry, changes, width=None):
    """The indices of the fewest changes with which the net holds; None if there are none."""
    if len(changes) > MOST_CHANGES:
        raise TooMany(MOST_CHANGES)
    for index, change in enumerate(changes):
        if not _is_change(net, change):
            raise BadChange(index)
    return _fewest(net, p, entry, width, RuleChoices(net, changes))


def cut(net, p, entry, width=None):
    """The indices of the fewest routes without which the net holds."""
    if len(net.routes) > MOST_CUT:
        raise TooMany(MOST_CUT)
    return _fewest(net, p, entry, width, RouteChoices(net))


def _fewest(net, p, entry, width, choices):
    """The fewest of some choices with which the net holds, as holds tells it."""
    faults = StateFaults(net, p, entry, choices) if width is None else WidthFaults(p, entry, width, choices)
    return fewest(choices, faults)


def _is_change(net, change):
    """Tells whether any value is a change of a rule of the net."""
    if not isinstance(change, (tuple, list)) or len(change) != 3:
        return False
    p, kind, rule = change
    return isinstance(p, str) and p in net.programs and is_kind(kind) and is_rule(kind, rule)

"""Which changes of rules, or which routes less, let an entry stay on its days."""

from whoseday.bands import is_right, wrong
from whoseday.entries import is_kind
from whoseday.errors import BadChange, TooMany
from whoseday.points import point_copy
from whoseday.rules import is_rule
from whoseday.states import States

MOST_CHANGES = 8
MOST_CUT = 10


def holds(net, p, entry, width=None):
    """Tells whether both points stay on their days on all walks, within a width if there is one."""
    if width is not None:
        return is_right(net, p, entry, width)
    return _moving_row(_both_states(net, p, entry)) is None


def repair(net, p, entry, changes, width=None):
    """The indices of the fewest changes with which the net holds; None if there are none."""
    if len(changes) > MOST_CHANGES:
        raise TooMany(MOST_CHANGES)
    for index, change in enumerate(changes):
        if not _is_change(net, change):
            raise BadChange(index)
    # Of each net that does not hold the rules by which it does not.
    failed = []
    for chosen in _choices(len(changes)):
        rules = {(changes[index][0], changes[index][1]): changes[index][2] for index in chosen}
        if len(rules) == len(chosen):
            changed = _changed(net, rules)
            if not any([_has_rules(changed, known) for known in failed]):
                keys = _keys_of_fault(changed, p, entry, width)
                if keys is None:
                    return chosen
                failed.append({(q, kind): changed.rule_of(q, kind) for q, kind in keys})
    return None


def cut(net, p, entry, width=None):
    """The indices of the fewest routes without which the net holds."""
    routes = net.routes
    if len(routes) > MOST_CUT:
        raise TooMany(MOST_CUT)
    # Of each net that does not hold the routes of a walk on which it does not.
    failed = []
    for chosen in _choices(len(routes)):
        lacking = [routes[index] for index in chosen]
        if all([any([route in lacking for route in walk]) for walk in failed]):
            row = _row_of_fault(_without(net, lacking), p, entry, width)
            if row is None:
                return chosen
            failed.append(list({route: True for route in zip([p, *row], row)}))
    return None


def _is_change(net, change):
    """Tells whether any value is a change of a rule of the net."""
    if not isinstance(change, (tuple, list)) or len(change) != 3:
        return False
    p, kind, rule = change
    return isinstance(p, str) and p in net.programs and is_kind(kind) and is_rule(kind, rule)


def _choices(many):
    """The ascending tuples of numbers below many, by their lengths and then in their order."""
    found = [()]
    level = [()]
    while level:
        level = [(*one, index) for one in level for index in range(one[-1] + 1 if one else 0, many)]
        found.extend(level)
    return found


def _changed(net, rules):
    """The net with other rules, {(program, kind): rule}."""
    for (p, kind), rule in rules.items():
        net = net.with_rule(p, kind, rule)
    return net


def _without(net, routes):
    """The net without some routes."""
    for p, q in routes:
        net = net.without_route(p, q)
    return net


def _has_rules(net, rules):
    """Tells whether the net has these rules, {(program, kind): rule}."""
    return all([net.rule_of(p, kind) == rule for (p, kind), rule in rules.items()])


def _keys_of_fault(net, p, entry, width):
    """Programs and kinds: with the same rules for them no net holds either; None if the net holds."""
    if width is None:
        both = _both_states(net, p, entry)
        # All keys there are, so that the other net has no more states than this one.
        return None if _moving_row(both) is None else _keys_in(both)
    row = _row_of_fault(net, p, entry, width)
    return None if row is None else _keys_on(net, row, entry)


def _row_of_fault(net, p, entry, width):
    """The row of a walk that tells by which routes and rules the net does not hold; None if it holds."""
    if width is None:
        return _moving_row(_both_states(net, p, entry))
    found = wrong(net, p, entry, width)
    # A block that is gone round comes along the same routes by the same rules each time.
    return None if found is None else tuple([name for row, _ in found[1] for name in row])


def _both_states(net, p, entry):
    return States(net, p, entry, 0), States(net, p, entry, 1)


def _moving_row(both):
    """The row of a walk that moves one of two points by days; None if there is none."""
    for states in both:
        for index, row in enumerate(states.steps):
            for _, days, name in row:
                if days != 0:
                    return (*states.way(index), name)
    return None


def _keys_in(both):
    """The programs, each with a kind of which it makes copies, of all copies of both points."""
    found = {}
    for states in both:
        for index, row in enumerate(states.steps):
            for _, _, name in row:
                found[(name, states.found[index][1])] = True
    return list(found)


def _keys_on(net, row, entry):
    """The programs, each with a kind of which it makes copies, of a walk."""
    found = {}
    kind, zone = entry.kind, entry.zone
    for q in row:
        found[(q, kind)] = True
        kind, zone, _, _ = point_copy(net, q, kind, zone, 0)
    return list(found)

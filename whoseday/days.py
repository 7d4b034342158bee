"""On which days an entry can show at a program, over all walks."""

from math import gcd

from whoseday.graphs import cost_of, costs_after, falling_ring, turned_costs
from whoseday.pieces import Days
from whoseday.rings import Rings
from whoseday.states import States, named_blocks, names_on
from whoseday.totals import Totals
from whoseday.words import need_number

MOST_COPIES = 60


def days_at(net, p, entry, q, end):
    """The set of the moved days of the point on all walks from p to q."""
    states = states_to(net, p, entry, q, end)
    return Days(Totals(states.steps, states.at(q)).all_pieces())


def can_show(net, p, entry, q, end, day):
    """A walk in blocks from p to q with so many moved days; None if there is none."""
    states = states_to(net, p, entry, q, end)
    need_number(day, None, None)
    blocks = Totals(states.steps, states.at(q)).blocks(day)
    return None if blocks is None else named_blocks(states, blocks)


def drift(net, p, entry, end):
    """A way and a ring that moves the point by days; None if it shows on finitely many days."""
    states = States(net, p, entry, end)
    rings = Rings(states.steps)
    for ring in [*rings.rising, *rings.falling]:
        if ring is not None:
            return states.way(ring[0]), names_on(states, ring)
    return None


def after(net, p, entry, q, end, n):
    """The least and the greatest moved days on walks of n copies from p to q; None if there are none."""
    states = states_to(net, p, entry, q, end)
    need_number(n, 0, MOST_COPIES)
    return costs_after(states.steps, n, states.at(q))


def growth(net, p, entry, end):
    """The least and the greatest mean of days for each copy, as pairs, among all rings; None without rings."""
    states = States(net, p, entry, end)
    least = _least_mean(states.steps)
    if least is None:
        return None
    most, copies = _least_mean(turned_costs(states.steps))
    return least, (-most, copies)


def states_to(net, p, entry, q, end):
    """The reached states, behind the errors for both programs, the zone and the end."""
    net.home_of(p)
    net.home_of(q)
    return States(net, p, entry, end)


def _least_mean(rows):
    """The least mean of the costs of a ring by its steps, as a pair in lowest terms; None without rings."""
    ring = falling_ring([[(step[0], -1) for step in row] for row in rows])
    if ring is None:
        return None
    cost = 0
    copies = 1
    while ring is not None:
        cost = cost_of(rows, ring)
        copies = len(ring) - 1
        # Only rings with a lesser mean fall by these costs.
        ring = falling_ring([[(step[0], step[1] * copies - cost) for step in row] for row in rows])
    common = gcd(cost, copies)
    return cost // common, copies // common

"""Weekdays and other cycles of the days on which an entry can show."""

from math import gcd

from whoseday.adding import next_up
from whoseday.copies import shown
from whoseday.days import states_to
from whoseday.states import States, named_blocks
from whoseday.totals import Totals
from whoseday.words import need_number

MOST_CYCLE = 400


def shifts(net, p, entry, q, end, *, cycle=7):
    """The rests by cycle of the moved days of the point on all walks from p to q."""
    states = states_to(net, p, entry, q, end)
    need_number(cycle, 1, MOST_CYCLE)
    found = {}
    for piece in Totals(states.steps, states.at(q)).all_pieces():
        # A piece without an end comes by all rests of some step.
        step = cycle if piece[0] == "one" else gcd(piece[2], cycle)
        for rest in range(piece[1] % step, cycle, step):
            found[rest] = True
    return tuple(sorted(list(found)))


def off_cycle(net, p, entry, end, *, cycle=7):
    """The row of a shortest walk with moved days that are no multiple of cycle; None if there is none."""
    states = States(net, p, entry, end)
    need_number(cycle, 1, MOST_CYCLE)
    # The states are found by the number of copies to them, and the first step
    # off the cycle comes behind steps that are none.
    for index, row in enumerate(states.steps):
        for _, days, name in row:
            if days % cycle != 0:
                return (*states.way(index), name)
    return None


def next_on(net, p, entry, q, end, low, rest, *, cycle=7):
    """The least day from low on with a rest by cycle on which the point shows at q; None if there is none."""
    states = states_to(net, p, entry, q, end)
    need_number(cycle, 1, MOST_CYCLE)
    need_number(low, None, None)
    need_number(rest, 0, cycle - 1)
    first = shown(net, p, entry)[end]
    pieces = Totals(states.steps, states.at(q)).all_pieces()
    found = [_next_with(piece, low - first, (rest - first) % cycle, cycle) for piece in pieces]
    return min([first + days for days in found if days is not None], default=None)


def mixed_up(net, p, entry, q, end, every):
    """Two walks in blocks from p to q by which unlike repeats show on one day; None if there are none."""
    states = states_to(net, p, entry, q, end)
    need_number(every, 1, MOST_CYCLE)
    totals = Totals(states.steps, states.at(q))
    days = _days_apart(totals.all_pieces(), every)
    if days is None:
        return None
    one, other = [named_blocks(states, totals.blocks(many)) for many in days]
    return one, other


def _next_with(piece, low, rest, cycle):
    """The least member of a piece from low on with a rest by cycle; None if there is none."""
    day = next_up(piece, low)
    # The rests of the members of a piece come again behind as many members at most.
    for _ in range(cycle):
        if day is None or day % cycle == rest:
            return day
        day = next_up(piece, day + 1)
    return None


def _days_apart(pieces, every):
    """Two members of pieces that differ by a multiple of every that is not 0; None if there are none."""
    ones = {}
    for piece in pieces:
        start = piece[1]
        if piece[0] != "one":
            more = every * piece[2]
            return start, start - more if piece[0] == "down" else start + more
        if ones.setdefault(start % every, start) != start:
            return ones[start % every], start
    return None

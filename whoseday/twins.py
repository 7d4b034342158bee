"""Where two nets show an entry on unlike days, as it goes along the same walks in both."""

from whoseday.copies import shown
from whoseday.errors import OtherPrograms, OtherRoutes, TooMany
from whoseday.pairs import Pairs, pair_steps
from whoseday.pieces import Days
from whoseday.points import need_known
from whoseday.states import Leads
from whoseday.totals import Totals
from whoseday.words import need_number

MOST_PAIRS = 2000


def parting_walk(one, other, p, entry, end):
    """The row of a shortest walk at whose end the nets show the point on unlike days; None if there is none."""
    _need_twins(one, other, (p,), entry, end)
    if _first_days(one, other, p, entry, end) != 0:
        return ()
    mine, yours = Leads(one, p, entry, end), Leads(other, p, entry, end)
    # Each pair with the one ahead of it; both nets show the same day in all of them.
    ahead = {(0, 0): None}
    level = list(ahead)
    while level:
        # Walks that part have more copies than those to all pairs so far.
        if len(ahead) > MOST_PAIRS:
            raise TooMany(MOST_PAIRS)
        later = []
        for pair in list(level):
            for goal, days, q in pair_steps(mine, yours, pair):
                if days != 0:
                    return (*_row_to(mine, ahead, pair), q)
                if goal not in ahead:
                    ahead[goal] = pair
                    later.append(goal)
        level = later
    return None


def apart(one, other, p, entry, q, end):
    """The set of all days in the first net less those in the second one, at the ends of walks from p to q."""
    _need_twins(one, other, (p, q), entry, end)
    pairs = Pairs(Leads(other, p, entry, end), Leads(one, p, entry, end), MOST_PAIRS)
    days = Days(Totals(pairs.steps, pairs.at(q)).all_pieces())
    return days.moved(_first_days(one, other, p, entry, end))


def _need_twins(one, other, programs, entry, end):
    """Raises the errors for two nets that are compared, with an entry at the first of some programs."""
    if one.programs != other.programs:
        raise OtherPrograms()
    if one.routes != other.routes:
        raise OtherRoutes()
    for p in programs:
        one.home_of(p)
    need_known(one, programs[0], entry)
    need_known(other, programs[0], entry)
    need_number(end, 0, 1)


def _first_days(one, other, p, entry, end):
    """The day on which the point shows at p in the first net less that in the second one."""
    return shown(one, p, entry)[end] - shown(other, p, entry)[end]


def _row_to(leads, ahead, pair):
    """The names of the programs on the way to a pair that the pairs ahead of one another tell."""
    names = []
    while ahead[pair] is not None:
        names.append(leads.program_of(pair[0]))
        pair = ahead[pair]
    return tuple(names[::-1])

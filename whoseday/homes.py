"""Which walks lead a point of an entry back to what it was at first."""

from whoseday.entries import DAY
from whoseday.errors import BadNumber, NoRoute, NotARing, TooMany
from whoseday.graphs import backward, cost_of, falling_ring, kept_inside, reached_from, turned_costs
from whoseday.points import Copier, minutes_of, need_point
from whoseday.rings import balanced_ring, cheapest_ring, stray_way
from whoseday.states import States, named_blocks, names_on
from whoseday.words import is_integer

MOST_LAPS = 1000


class Settled:
    """What becomes of a point that is copied along a ring for ever.

    Callers do not make it. days are the moved days behind each lap ahead of
    the one that leads the point into a state for the second time.
    """

    def __init__(self, days, laps, gain, still):
        self._days = tuple(days)
        self._still = still
        self.laps = laps
        self.period = len(days) - laps
        self.gain = gain

    def days_after(self, n):
        """The moved days behind the row and n laps."""
        if not is_integer(n) or n < 0:
            raise BadNumber(n)
        if n < self.laps:
            return self._days[n]
        turns, rest = divmod(n - self.laps, self.period)
        return self._days[self.laps + rest] + turns * self.gain

    @property
    def still(self):
        """Tells whether the point is shown on one day for ever from some copy on."""
        return self._still


def comes_home(net, p, entry, end):
    """A walk in blocks by which the point comes home; None if there is none."""
    states = States(net, p, entry, end)
    # Steps that cannot lead back to the first state are of no use.
    rows = kept_inside(states.steps, reached_from(backward(states.steps), [0]))
    falling = falling_ring(rows)
    rising = falling_ring(turned_costs(rows))
    if falling is not None and rising is not None:
        blocks = balanced_ring(rows, 0, rising, falling)
    else:
        way = cheapest_ring(rows if falling is None else turned_costs(rows), 0)
        if way is None or cost_of(rows, way) != 0:
            return None
        blocks = [(way, 1)]
    return named_blocks(states, blocks)


def strays(net, p, entry, end):
    """The row of a shortest walk that ends at p, not home; None if there is none."""
    states = States(net, p, entry, end)
    way = stray_way(states.steps, [state[0] == p for state in states.found])
    return None if way is None else names_on(states, way)


def settles(net, p, row, ring, entry, end):
    """What becomes of the point along row and then along ring again and again."""
    need_point(net, p, entry, end)
    names = [p, *row, *ring]
    for index in range(1, len(names)):
        if not isinstance(names[index], str) or (names[index - 1], names[index]) not in net.routes:
            raise NoRoute(index - 1)
    if len(ring) == 0 or names[-1] != names[len(row)]:
        raise NotARing(tuple(ring))
    copier = Copier(net, end)
    minutes = minutes_of(entry.kind, entry.last if end == 1 else entry.first)
    first_day = copier.day(p, entry.kind, entry.zone, minutes)
    point, _ = _lap(copier, row, (entry.kind, entry.zone, minutes))
    return _settled(copier, names[len(row)], ring, point, first_day)


def _settled(copier, q, ring, point, first_day):
    """The Settled of a point at q that is copied along a ring back to q."""
    numbers = {}
    days = []
    shown = []
    for lap in range(MOST_LAPS + 1):
        kind, zone, minutes = point
        day = copier.day(q, kind, zone, minutes)
        state = (kind, zone, minutes % DAY)
        if state in numbers:
            laps = numbers[state]
            gain = day - first_day - days[laps]
            still = gain == 0 and len({one for pair in shown[laps:] for one in pair}) == 1
            return Settled(days, laps, gain, still)
        numbers[state] = lap
        days.append(day - first_day)
        point, seen = _lap(copier, ring, point)
        shown.append(seen)
    raise TooMany(MOST_LAPS)


def _lap(copier, names, point):
    """The point behind copies along names, and the days on which it shows, least and greatest."""
    kind, zone, minutes = point
    days = []
    for q in names:
        kind, zone, minutes = copier.carry(q, kind, zone, minutes)
        days.append(copier.day(q, kind, zone, minutes))
    return (kind, zone, minutes), (min(days, default=0), max(days, default=0))

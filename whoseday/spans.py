"""On how many days an entry shows, from its first to its last point, over all walks."""

from whoseday.copies import shown
from whoseday.days import MOST_COPIES
from whoseday.graphs import costs_after, short_way
from whoseday.pairs import Pairs, pair_blocks
from whoseday.pieces import Days
from whoseday.points import need_known
from whoseday.rings import Rings
from whoseday.states import Leads
from whoseday.totals import Totals
from whoseday.words import need_number

MOST_PAIRS = 1000


def spans_at(net, p, entry, q):
    """The set of the spans at the ends of all walks from p to q."""
    pairs, first = _pairs(net, p, entry, q)
    return Days(Totals(pairs.steps, pairs.at(q)).all_pieces()).moved(first)


def span_walk(net, p, entry, q, span):
    """A walk in blocks from p to q that ends with a span; None if there is none."""
    pairs, first = _pairs(net, p, entry, q)
    need_number(span, None, None)
    blocks = Totals(pairs.steps, pairs.at(q)).blocks(span - first)
    return None if blocks is None else pair_blocks(pairs, blocks)


def span_after(net, p, entry, q, n):
    """The least and the greatest span on walks of n copies from p to q; None if there are none."""
    pairs, first = _pairs(net, p, entry, q)
    need_number(n, 0, MOST_COPIES)
    found = costs_after(pairs.steps, n, pairs.at(q))
    return None if found is None else (first + found[0], first + found[1])


def grows(net, p, entry):
    """A way and a ring that makes the span greater each time; None if there are finitely many spans."""
    pairs, _ = _pairs(net, p, entry, p)
    for ring in Rings(pairs.steps).rising:
        if ring is not None:
            return pairs.row_on(short_way(pairs.steps, 0, ring[0])), pairs.row_on(ring)
    return None


def changes_span(net, p, entry):
    """The row of a shortest walk at whose end the entry has another span; None if there is none."""
    pairs, _ = _pairs(net, p, entry, p)
    # The pairs are found by the number of copies to them, and the first step
    # that changes the span comes behind steps that do not.
    for index, row in enumerate(pairs.steps):
        for _, days, name in row:
            if days != 0:
                return (*pairs.row_on(short_way(pairs.steps, 0, index)), name)
    return None


def _pairs(net, p, entry, q):
    """The pairs of states of the first and the last point, and the span at p at first."""
    net.home_of(p)
    net.home_of(q)
    need_known(net, p, entry)
    pairs = Pairs(Leads(net, p, entry, 0), Leads(net, p, entry, 1), MOST_PAIRS)
    early, late = shown(net, p, entry)
    return pairs, late - early + 1

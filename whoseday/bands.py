"""Within which width a net is right for all offsets at once."""

from whoseday.copies import moved_days
from whoseday.entries import DAY
from whoseday.errors import BadEntry, NoHours
from whoseday.forms import Forms
from whoseday.graphs import short_way
from whoseday.points import need_known
from whoseday.rules import KEEP, LAST_MINUTE
from whoseday.spreads import origins, spread_walk, spreads_of, stretch_sum
from whoseday.unknown import as_shown
from whoseday.words import need_number

MOST_WIDTH = 1680
HALF_A_DAY = 720


def is_right(net, p, entry, width):
    """Tells whether the net is right with the entry at p within a width."""
    need_known(net, p, entry)
    need_number(width, 0, MOST_WIDTH)
    return all([_fits(origin.room, found, width) for origin, found in _spread_origins(net, p, entry)])


def widest(net, p, entry):
    """The greatest width within which the net is right; None if it is right within all."""
    need_known(net, p, entry)
    bounds = []
    for origin, found in _spread_origins(net, p, entry):
        if found != 0:
            bounds.append(0 if found is None else origin.room // found)
    return min(bounds, default=None)


def wrong(net, p, entry, width):
    """Offsets and a walk in blocks behind which the entry is not right; None if the net is right."""
    need_known(net, p, entry)
    need_number(width, 0, MOST_WIDTH)
    for number, (origin, found) in enumerate(_spread_origins(net, p, entry)):
        if not _fits(origin.room, found, width):
            at_first = number == 0 and entry.kind != "day"
            row = () if at_first else _row_to(net, (p, entry.kind, entry.zone), origin.program)
            return _wrong_from(net, p, entry, row, origin, min(width, HALF_A_DAY))
    return None


def right_minutes(net, p, entry, width):
    """The pairs (low, high) of the minutes that the first point may show, so that the net is right."""
    need_known(net, p, entry)
    need_number(width, 0, MOST_WIDTH)
    if entry.kind == "day":
        raise BadEntry(entry)
    (_, found), *others = _spread_origins(net, p, entry)
    if not all([_fits(origin.room, other, width) for origin, other in others]):
        return []
    length = entry.last - entry.first
    pairs = []
    for minute in range(DAY):
        room = min(_room(minute), _room((minute + length) % DAY))
        if _fits(room, found, width):
            if pairs and pairs[-1][1] == minute - 1:
                pairs[-1] = (pairs[-1][0], minute)
            else:
                pairs.append((minute, minute))
    return pairs


def right_hours(net, p, entry, q, width):
    """The least and the greatest first minute of a day at q, so that the net is right; None if there is none."""
    net.home_of(p)
    net.home_of(q)
    need_known(net, p, entry)
    need_number(width, 0, MOST_WIDTH)
    rule = net.rule_of(q, "day")
    if rule == KEEP:
        raise NoHours(q)
    _, early, late = rule.split(" ")
    low = 0
    for number, (origin, found) in enumerate(_spread_origins(net, p, entry)):
        at_first = number == 0 and entry.kind != "day"
        if origin.program != q or at_first:
            if not _fits(origin.room, found, width):
                return None
        elif found is not None:
            low = width * found
        elif width > 0:
            return None
    high = LAST_MINUTE - (int(late) - int(early)) - low
    return (low, high) if low <= high else None


def _spread_origins(net, p, entry):
    """The origins of the entry, each with its spread."""
    found = origins(net, p, entry)
    return list(zip(found, spreads_of(net, [(one.program, one.kind, one.zone) for one in found])))


def _fits(room, found, width):
    """Tells whether clocks with so much room and with a spread stay on their days within a width."""
    return found == 0 or width == 0 or (found is not None and width * found <= room)


def _room(minute):
    return min(minute, LAST_MINUTE - minute)


def _row_to(net, form, q):
    """The row of a walk from a form along which a day comes to q."""
    forms = Forms(net, [form], True)
    days = [index for index, one in enumerate(forms.found) if one[1] == "day" and q in net.targets_of(one[0])]
    return (*forms.row_on(short_way(forms.steps, 0, days[0])), q)


def _wrong_from(net, p, entry, row, origin, width):
    """Offsets and a walk in blocks along row, by which an origin comes about, and then too far."""
    high, way, ring = spread_walk(net, origin.program, origin.kind, origin.zone)
    # The clocks go up where the room is above them, and down otherwise.
    up = origin.room in (LAST_MINUTE - origin.first, LAST_MINUTE - origin.last)
    offsets = {zone: width if (zone in high) == up else 0 for zone in net.zones}
    other, shown = as_shown(net, p, entry, offsets)
    if moved_days(other, (p, *row), shown) != (0, 0):
        return offsets, ((row, 1),)
    found, form = stretch_sum(net, (origin.program, origin.kind, origin.zone), way, high)
    blocks = [((*row, *way), 1)]
    if ring:
        more, _ = stretch_sum(net, form, ring, high)
        missing = origin.room // width + 1 - found
        blocks.append((ring, max(1, -(-missing // more))))
    return offsets, tuple([block for block in blocks if block[0]])

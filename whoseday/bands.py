"""Within which width a net is right for all offsets at once."""

from whoseday.copies import moved_days
from whoseday.entries import DAY
from whoseday.errors import BadEntry, NoHours
from whoseday.points import need_known
from whoseday.rules import KEEP, LAST_MINUTE
from whoseday.spreads import Course, stretch_sum
from whoseday.unknown import as_shown
from whoseday.words import need_number

MOST_WIDTH = 1680
HALF_A_DAY = 720


def is_right(net, p, entry, width):
    """Tells whether the net is right with the entry at p within a width."""
    _need_width(net, p, entry, width)
    return _wrong_birth(Course(net, p, entry), width) is None


def widest(net, p, entry):
    """The greatest width within which the net is right; None if it is right within all."""
    need_known(net, p, entry)
    bounds = []
    for birth, found in Course(net, p, entry).spread_births():
        if found != 0:
            bounds.append(0 if found is None else birth[0].room // found)
    return min(bounds, default=None)


def wrong(net, p, entry, width):
    """Offsets and a walk in blocks behind which the entry is not right; None if the net is right."""
    _need_width(net, p, entry, width)
    course = Course(net, p, entry)
    birth = _wrong_birth(course, width)
    return None if birth is None else _wrong_from(net, p, entry, course, birth, min(width, HALF_A_DAY))


def wrong_row(net, p, entry, width):
    """The row of a walk whose rules tell that the net is not right; None if it is right."""
    _need_width(net, p, entry, width)
    course = Course(net, p, entry)
    birth = _wrong_birth(course, width)
    if birth is None:
        return None
    # A ring at the end need be gone round once only: it comes along the same rules each time.
    _, way, ring = course.stretches().widest_way(birth[1])
    return (*course.row_to(birth), *course.row_on(way), *course.row_on(ring))


def right_minutes(net, p, entry, width):
    """The pairs (low, high) of the minutes that the first point may show, so that the net is right."""
    _need_width(net, p, entry, width)
    if entry.kind == "day":
        raise BadEntry(entry)
    (_, found), *others = Course(net, p, entry).spread_births()
    if not all([_fits(birth[0].room, other, width) for birth, other in others]):
        return []
    if width > 0 and found is None:
        return []
    low = 0 if found is None else width * found
    if low == 0:
        return [(0, LAST_MINUTE)]
    # Both points keep so far from the minutes of other days; the last one is on the day of the first one, or later.
    later = (entry.last - entry.first) % DAY
    pairs = [(low, LAST_MINUTE - later - low), (DAY - later + low, LAST_MINUTE - low)]
    return [pair for pair in pairs if pair[0] <= pair[1]]


def right_hours(net, p, entry, q, width):
    """The least and the greatest first minute of a day at q, so that the net is right; None if there is none."""
    net.home_of(p)
    net.home_of(q)
    _need_width(net, p, entry, width)
    rule = net.rule_of(q, "day")
    if rule == KEEP:
        raise NoHours(q)
    _, early, late = rule.split(" ")
    low = 0
    for (origin, _, holder, _), found in Course(net, p, entry).spread_births():
        if origin.program != q or holder is None:
            if not _fits(origin.room, found, width):
                return None
        elif found is not None:
            low = width * found
        elif width > 0:
            return None
    high = LAST_MINUTE - (int(late) - int(early)) - low
    return (low, high) if low <= high else None


def _need_width(net, p, entry, width):
    need_known(net, p, entry)
    need_number(width, 0, MOST_WIDTH)


def _wrong_birth(course, width):
    """The first birth whose origin does not stay on its days within a width; None if all do."""
    for birth, found in course.spread_births():
        if not _fits(birth[0].room, found, width):
            return birth
    return None


def _fits(room, found, width):
    """Tells whether clocks with so much room and with a spread stay on their days within a width."""
    return found == 0 or width == 0 or (found is not None and width * found <= room)


def _wrong_from(net, p, entry, course, birth, width):
    """Offsets and a walk in blocks, by which an origin comes about, and then too far."""
    origin = birth[0]
    row = course.row_to(birth)
    high, way, ring = course.stretches().widest_way(birth[1])
    # The clocks go up where the room is above them, and down otherwise.
    up = origin.room in (LAST_MINUTE - origin.first, LAST_MINUTE - origin.last)
    offsets = {zone: width if (zone in high) == up else 0 for zone in net.zones}
    other, shown = as_shown(net, p, entry, offsets)
    if moved_days(other, (p, *row), shown) != (0, 0):
        return offsets, ((row, 1),)
    found, form = stretch_sum(net, (origin.program, origin.kind, origin.zone), course.row_on(way), high)
    blocks = [((*row, *course.row_on(way)), 1)]
    if ring:
        more, _ = stretch_sum(net, form, course.row_on(ring), high)
        missing = origin.room // width + 1 - found
        blocks.append((course.row_on(ring), max(1, -(-missing // more))))
    return offsets, tuple([block for block in blocks if block[0]])

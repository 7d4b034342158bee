"""Nets whose offsets are unknown: other offsets, and which of them a copy adds."""

from whoseday.entries import entry_of
from whoseday.errors import BadOffsets
from whoseday.forms import form_copy
from whoseday.parts import is_offset
from whoseday.points import clock_lead, need_known


def as_shown(net, p, entry, offsets):
    """The net with other offsets, and the entry that shows there as the entry does in the net."""
    need_known(net, p, entry)
    if not _is_assignment(net, offsets):
        raise BadOffsets(offsets)
    other = net.with_offsets({zone: offsets[zone] for zone in net.zones})
    if entry.kind == "day":
        return other, entry
    more = clock_lead(net, p, entry.kind, entry.zone) - clock_lead(other, p, entry.kind, entry.zone)
    return other, entry_of(entry.kind, entry.first + more, entry.last + more, entry.zone)


def added(net, p, q, kind, zone):
    """The kind and the zone of what q copies from p, and the zones whose offsets its clock gets."""
    net.home_of(p)
    net.home_of(q)
    need_zone(net, kind, zone)
    return form_copy(net, p, q, kind, zone)


def need_zone(net, kind, zone):
    """Raises NoZone(zone) for what is passed as the zone of an entry of a kind."""
    if kind == "zoned" or zone is not None:
        net.offset_of(zone)


def _is_assignment(net, offsets):
    """Tells whether any value is a dict of all zones of the net and nothing else, with offsets."""
    if not isinstance(offsets, dict) or len(offsets) != len(net.zones):
        return False
    # A key that is no text could be equal to a name all the same.
    if not all([isinstance(zone, str) for zone in offsets]):
        return False
    return all([zone in offsets and is_offset(offsets[zone]) for zone in net.zones])

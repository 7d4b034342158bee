"""What is shown of an entry at a program, and what copies make of it."""

from whoseday.entries import entry_of
from whoseday.errors import NoRoute
from whoseday.points import Copier, clock_lead, minutes_of, need_known, value_of


def clock(net, p, entry):
    """The shown clocks of the first and the last point; None for a day."""
    need_known(net, p, entry)
    if entry.kind == "day":
        return None
    lead = clock_lead(net, p, entry.kind, entry.zone)
    return entry.first + lead, entry.last + lead


def shown(net, p, entry):
    """The days on which the first and the last point show."""
    need_known(net, p, entry)
    return _days(_copiers(net), p, minutes_held(entry))


def copied(net, p, entry):
    """The entry that the program p holds when it copies an entry."""
    need_known(net, p, entry)
    return entry_held(_copy(_copiers(net), p, minutes_held(entry)))


def along(net, walk, entry):
    """The entries that are held on a walk, the given one first."""
    later = _walked(net, walk, entry)[1:]
    return (entry, *[entry_held(held) for held in later])


def carried(net, walk, entry):
    """The entry that is held at the end of a walk."""
    return entry_held(_walked(net, walk, entry)[-1])


def moved_days(net, walk, entry):
    """The moved days of the first and of the last point on a walk."""
    held = _walked(net, walk, entry)
    copiers = _copiers(net)
    early, late = _days(copiers, walk[0], held[0])
    first, last = _days(copiers, walk[-1], held[-1])
    return first - early, last - late


def need_walk(net, walk, entry):
    """Raises NoProgram(name), NoRoute(index) or NoZone(zone) for a walk and its entry."""
    for name in walk:
        net.home_of(name)
    if len(walk) == 0:
        raise NoRoute(0)
    for index in range(1, len(walk)):
        if (walk[index - 1], walk[index]) not in net.routes:
            raise NoRoute(index)
    need_known(net, walk[0], entry)


def minutes_held(entry):
    """Kind, zone and the minutes of both points of an entry."""
    kind = entry.kind
    return kind, entry.zone, minutes_of(kind, entry.first), minutes_of(kind, entry.last)


def entry_held(held):
    """The entry with this kind and zone and these minutes of both points."""
    kind, zone, first, last = held
    return entry_of(kind, value_of(kind, first), value_of(kind, last), zone)


def _copiers(net):
    return Copier(net, 0), Copier(net, 1)


def _copy(copiers, q, held):
    kind, zone, first, last = held
    _, _, early = copiers[0].carry(q, kind, zone, first)
    kind, zone, late = copiers[1].carry(q, kind, zone, last)
    return kind, zone, early, late


def _days(copiers, p, held):
    kind, zone, first, last = held
    return copiers[0].day(p, kind, zone, first), copiers[1].day(p, kind, zone, last)


def _walked(net, walk, entry):
    """What is held on a walk, one member for each name."""
    need_walk(net, walk, entry)
    copiers = _copiers(net)
    held = [minutes_held(entry)]
    for name in walk[1:]:
        held.append(_copy(copiers, name, held[-1]))
    return held

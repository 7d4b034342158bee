"""What is held behind a walk that is gone along many times."""

from whoseday.copies import entry_held, minutes_held, need_walk
from whoseday.errors import NotARing
from whoseday.relays import Relay
from whoseday.words import need_number

MOST_LAPS = 10 ** 30


def lapped(net, walk, many, entry):
    """The entry that is held if it is carried many times along a walk that ends where it begins."""
    need_walk(net, walk, entry)
    if len(walk) == 1 or walk[0] != walk[-1]:
        raise NotARing(tuple(walk))
    need_number(many, 0, MOST_LAPS)
    relay = Relay(net, {walk[0]: (walk[0], walk[1:])}, many)
    return entry_held(relay.handed({walk[0]: minutes_held(entry)})[walk[0]])

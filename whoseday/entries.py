"""Entries of a calendar, and their texts."""

from whoseday.errors import BadText
from whoseday.words import MOST_DIGITS, is_name, number_in

DAY = 1440
KINDS = ("day", "float", "zoned", "fixed")


class Entry:
    """The entry with a text: its kind, its two values and its zone, if any.

    Numbers in texts of callers have at most 30 digits. Only entries that the
    package makes, by entry_of, may have longer ones.
    """

    def __init__(self, text, *, digits=MOST_DIGITS):
        if not isinstance(text, str):
            raise BadText(1)
        kind, first, last, zone = _parts(text.split(" "), digits)
        self.text = text
        self.kind = kind
        self.first = first
        self.last = last
        self.zone = zone

    def __eq__(self, other):
        return isinstance(other, Entry) and self.text == other.text

    def __add__(self, many):
        return _later(self, many)

    def __sub__(self, many):
        return _later(self, -many)


def entry_of(kind, first, last, zone):
    """The entry with these parts, whose values may have any number of digits."""
    where = "" if zone is None else f" {zone}"
    return Entry(f"{kind} {first} to {last}{where}", digits=None)


def is_kind(value):
    """Tells whether any value is one of the four kinds."""
    return isinstance(value, str) and value in KINDS


def _later(entry, many):
    step = many if entry.kind == "day" else DAY * many
    return entry_of(entry.kind, entry.first + step, entry.last + step, entry.zone)


def _parts(words, digits):
    """Kind, first point, last point and zone that the words of a text tell."""
    kind = words[0]
    if not is_kind(kind) or len(words) != (5 if kind == "zoned" else 4):
        raise BadText(1)
    first = number_in(words[1], digits)
    last = number_in(words[3], digits)
    if words[2] != "to" or first is None or last is None or first > last:
        raise BadText(1)
    if kind != "zoned":
        return kind, first, last, None
    if not is_name(words[4]):
        raise BadText(1)
    return kind, first, last, words[4]

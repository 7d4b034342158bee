"""Offsets of which bounds are known, each alone or less another one."""

from whoseday.parts import MOST_OFFSET


class Bounds:
    """What bounds tell together of the offsets of zones.

    Each of some lines (low, high, head, tail) tells that the offset of head
    less that of tail is from low to high; for None there is the number 0. Each
    offset is from -840 to 840.
    """

    def __init__(self, zones, lines):
        self._places = {None: 0}
        for zone in zones:
            self._places[zone] = len(self._places)
        many = len(self._places)
        # By how much the second of two offsets can be greater than the first one.
        self._most = [[_at_first(one, other) for other in range(many)] for one in range(many)]
        for low, high, head, tail in lines:
            self._lower(tail, head, high)
            self._lower(head, tail, -low)
        for middle in range(many):
            self._pass_by(middle)

    def agree(self):
        """Tells whether there are such offsets."""
        return all([row[place] >= 0 for place, row in enumerate(self._most)])

    def low_of(self, head, tail):
        """The least number that the offset of head less that of tail can be."""
        return -self._most[self._places[head]][self._places[tail]]

    def high_of(self, head, tail):
        """The greatest number that the offset of head less that of tail can be."""
        return self._most[self._places[tail]][self._places[head]]

    def _lower(self, tail, head, high):
        row = self._most[self._places[tail]]
        place = self._places[head]
        row[place] = min(row[place], high)

    def _pass_by(self, middle):
        """Takes the ways that come past one place, where they tell more."""
        beyond = self._most[middle]
        self._most = [[min(known, row[middle] + more) for known, more in zip(row, beyond)] for row in self._most]


def _at_first(one, other):
    """How much greater one of two offsets can be if no lines tell of them; the place 0 is the number 0."""
    if one == other:
        return 0
    return MOST_OFFSET if 0 in (one, other) else 2 * MOST_OFFSET

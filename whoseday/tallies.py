"""What copies count for all sets of zones at once.

A tally is one integer with a figure for each set of some zones, FIGURE bits
for each: so one sum, or one comparison, does for all sets. The figures are not
below 0 and leave the highest of their bits free.
"""

FIGURE = 16
MASK = 65535


class Tallies:
    """The tallies of some zones.

    ones has the figure 1 for each set, and free the free bits of all figures.
    """

    def __init__(self, zones):
        self.zones = tuple(zones)
        self.ones = 1
        # For each zone the figure 1 for each set that has it.
        self._having = {}
        bits = FIGURE
        for zone in self.zones:
            # The same sets come once more behind the others, and have the zone.
            self._having = {one: having | (having << bits) for one, having in self._having.items()}
            self._having[zone] = self.ones << bits
            self.ones = self.ones | (self.ones << bits)
            bits *= 2
        self.free = self.ones << (FIGURE - 1)

    def counted(self, pair):
        """What a copy with a pair (head, tail) of zones, or None, counts: it is added to tallies."""
        return 0 if pair is None else self._having[pair[0]] - self._having[pair[1]]

    def reaches(self, tally, figure):
        """Tells whether a tally has a figure that is not less than this one."""
        return (((tally | self.free) - figure * self.ones) & self.free) != 0

    def greatest_of(self, tally):
        """The greatest figure of a tally, and the zones of its set."""
        figures = []
        while tally > 0:
            figures.append(tally & MASK)
            tally >>= FIGURE
        return max(figures), self._set_at(figures.index(max(figures)))

    def unlike(self, two):
        """The zones of a set for which two unlike tallies have unlike figures."""
        return self._set_at(((two[0] ^ two[1]).bit_length() - 1) // FIGURE)

    def _set_at(self, place):
        return tuple([zone for at, zone in enumerate(self.zones) if (place >> at) & 1])

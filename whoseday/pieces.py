"""Sets of days that are told by pieces."""

from whoseday.adding import all_sums, next_down, next_up
from whoseday.errors import BadNumber, BadPiece
from whoseday.words import is_integer

MEMBERS = {"one": 2, "up": 3, "down": 3, "every": 3}
MOST_COMPARED = 10000


class Days:
    """The set of the integers that lie in one of its pieces; it never changes.

    A piece is ("one", a), ("up", a, step), ("down", a, step) or ("every", a, step).
    """

    def __init__(self, pieces):
        for index, piece in enumerate(pieces):
            if not _is_piece(piece):
                raise BadPiece(index)
        self.pieces = tuple([tuple(piece) for piece in pieces])
        # By the rest by their step: so it does not matter how many pieces there are.
        self._ones = {piece[1]: True for piece in self.pieces if piece[0] == "one"}
        self._ups = _starts(self.pieces, "up")
        self._downs = _starts(self.pieces, "down")
        self._everys = _starts(self.pieces, "every")
        self._steps = tuple(sorted({piece[2] for piece in self.pieces if piece[0] != "one"}))

    def __contains__(self, day):
        if not is_integer(day):
            return False
        return day in self._ones or any([self._steps_on(day, step) for step in self._steps])

    def __add__(self, other):
        return Days(all_sums(self.pieces, other.pieces))

    def __or__(self, other):
        return Days(self.pieces + other.pieces)

    @property
    def least(self):
        """The least member; None if there is none."""
        if self.goes_down:
            return None
        return min([piece[1] for piece in self.pieces], default=None)

    @property
    def greatest(self):
        """The greatest member; None if there is none."""
        if self.goes_up:
            return None
        return max([piece[1] for piece in self.pieces], default=None)

    @property
    def goes_down(self):
        """Tells whether the set goes on without an end downward."""
        return any([piece[0] in ("down", "every") for piece in self.pieces])

    @property
    def goes_up(self):
        """Tells whether the set goes on without an end upward."""
        return any([piece[0] in ("up", "every") for piece in self.pieces])

    def next_from(self, low):
        """The least member that is not less than low; None if there is none."""
        found = [next_up(piece, low) for piece in self.pieces]
        return min([day for day in found if day is not None], default=None)

    def next_to(self, high):
        """The greatest member that is not greater than high; None if there is none."""
        found = [next_down(piece, high) for piece in self.pieces]
        return max([day for day in found if day is not None], default=None)

    def moved(self, many):
        """The set of the members with an integer added to each."""
        return Days([(piece[0], piece[1] + many, *piece[2:]) for piece in self.pieces])

    @staticmethod
    def same(one, other, low, high):
        """Tells whether two sets have the same members from low to high."""
        for number in (low, high):
            if not is_integer(number):
                raise BadNumber(number)
        if high > low + MOST_COMPARED:
            raise BadNumber(high)
        for day in range(low, high + 1):
            if (day in one) != (day in other):
                return False
        return True

    def _steps_on(self, day, step):
        """Tells whether a day lies in one of the pieces with a step."""
        key = (step, day % step)
        if key in self._everys:
            return True
        if key in self._ups and self._ups[key] <= day:
            return True
        return key in self._downs and self._downs[key] >= day


def _is_piece(piece):
    """Tells whether any value is a piece, or a list of the members of one."""
    if not isinstance(piece, (tuple, list)) or len(piece) == 0 or not isinstance(piece[0], str):
        return False
    if MEMBERS.get(piece[0]) != len(piece):
        return False
    if not all([is_integer(number) for number in piece[1:]]):
        return False
    return piece[0] == "one" or piece[2] >= 1


def _starts(pieces, word):
    """Of the pieces of a kind the one that goes farthest, by their step and the rest by it."""
    found = {}
    for piece in pieces:
        if piece[0] == word:
            _, start, step = piece
            key = (step, start % step)
            if key not in found or (start > found[key] if word == "down" else start < found[key]):
                found[key] = start
    return found

"""Integers, names and numbers in texts."""

from whoseday.errors import BadNumber

MOST_DIGITS = 30
MOST_LETTERS = 12


def is_integer(value):
    """Tells whether any value is an integer; True and False are none."""
    return isinstance(value, int) and not isinstance(value, bool)


def need_number(value, low, high):
    """Raises BadNumber(value) for any value that is not an integer from low to high; None sets no bound."""
    if not is_integer(value) or (low is not None and value < low) or (high is not None and value > high):
        raise BadNumber(value)


def is_name(value):
    """Tells whether any value is a word of 1 to 12 letters a to z."""
    if not isinstance(value, str) or len(value) > MOST_LETTERS:
        return False
    # isalpha and islower alone would let in letters of other alphabets.
    return value.isascii() and value.isalpha() and value.islower()


def number_in(word, digits=MOST_DIGITS):
    """The integer that a word tells, or None if it is not the text of one.

    It has at most so many digits; digits None sets no bound.
    """
    figures = word.removeprefix("-")
    # isdigit alone would let in the digits of other alphabets.
    if not (figures.isascii() and figures.isdigit()):
        return None
    if figures[0] == "0" and word != "0":
        return None
    if digits is not None and len(figures) > digits:
        return None
    return int(word)

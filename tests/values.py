"""Values of all kinds, for places where any value may be passed."""


class Thing:
    """An object of no kind that the package knows."""


class Same:
    """An object that says of itself that it is equal to everything."""

    def __eq__(self, other):
        return True

    def __hash__(self):
        return hash("a")


class Sulky:
    """An object that can be neither compared nor written."""

    __hash__ = None

    def __eq__(self, other):
        raise RuntimeError("compared")

    def __repr__(self):
        raise RuntimeError("written")

    __str__ = __repr__


def odd_values():
    """New values that are no texts, and no integers but True and False."""
    return [
        True, False, None, 1.0, 1.5, b"", b"a", b"day 1 to 2", [], ["a"], (), ("a",),
        {}, {"a": 1}, {"a"}, frozenset("a"), Thing(), Same(), Sulky(), Thing, len, object(),
        float("nan"), 3 + 0j, range(3), bytearray(b"a"),
    ]


def integers():
    """Integers of all sizes; two of them are too long to be written."""
    return [0, 1, -1, 2, 840, -840, 841, -841, 1440, 10 ** 30, -10 ** 31, 10 ** 5000, -10 ** 5000]


def no_names():
    """Values that are no names."""
    return odd_values() + integers() + [
        "", " ", "a ", " a", "a b", "A", "aB", "a1", "1", "a_", "a-b", "\n", "a\n",
        "abcdefghijklm", "a" * 1000, "\u00e4", "\u00df", "\u03b1", "\uff41", "a\u0301", "a\x00",
    ]


def bent(text, signs):
    """All texts that lack a sign of text, have one more, or another one, and text itself."""
    found = {text}
    for at in range(len(text) + 1):
        found.add(text[:at] + text[at + 1:])
        found.add(text[:at] + text[at:at + 1] * 2 + text[at + 1:])
        for sign in signs:
            found.add(text[:at] + sign + text[at:])
            found.add(text[:at] + sign + text[at + 1:])
    return sorted(found)

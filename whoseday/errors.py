"""All errors of the package.

No error puts the value that it holds into a message: any value may be held,
also one that cannot be written as a text.
"""


class WhosedayError(ValueError):
    """What all errors of the package are."""


class BadText(WhosedayError):
    """A text has a line, counted from 1, that is wrong or cannot stand there."""

    def __init__(self, line):
        self.line = line


class BadName(WhosedayError):
    """The value is not a name, or the name is taken already."""

    def __init__(self, name):
        self.name = name


class NoZone(WhosedayError):
    """The value is not the name of a zone of the net."""

    def __init__(self, name):
        self.name = name


class NoProgram(WhosedayError):
    """The value is not the name of a program of the net."""

    def __init__(self, name):
        self.name = name


class NoRoute(WhosedayError):
    """No route leads to the member of a walk or of a row with this index."""

    def __init__(self, index):
        self.index = index


class BadPiece(WhosedayError):
    """The member with this index is not a piece of a set of days."""

    def __init__(self, index):
        self.index = index


class BadNumber(WhosedayError):
    """The value is not an integer, or none that is allowed here."""

    def __init__(self, number):
        self.number = number


class TooMany(WhosedayError):
    """There are more than so many."""

    def __init__(self, most):
        self.most = most


class NothingToUndo(WhosedayError):
    """There is no deed to be taken back."""


class BadKind(WhosedayError):
    """The value is not a kind of entries."""

    def __init__(self, kind):
        self.kind = kind


class BadRule(WhosedayError):
    """The value is not the text of a rule for the kind."""

    def __init__(self, rule):
        self.rule = rule


class BadOffsets(WhosedayError):
    """The value does not assign an offset to each zone of the net."""

    def __init__(self, offsets):
        self.offsets = offsets


class NoHours(WhosedayError):
    """The program keeps days, so no minutes are made of them."""

    def __init__(self, program):
        self.program = program


class BadChange(WhosedayError):
    """The member with this index is not a change of a rule."""

    def __init__(self, index):
        self.index = index


class BadLook(WhosedayError):
    """The member with this index is not a look."""

    def __init__(self, index):
        self.index = index


class TooWide(WhosedayError):
    """The look with this index has a walk that is not narrow."""

    def __init__(self, index):
        self.index = index


class NotTogether(WhosedayError):
    """The looks with these indices cannot come out together."""

    def __init__(self, looks):
        self.looks = looks


class BadEntry(WhosedayError):
    """The value is not an entry, or none that is allowed here."""

    def __init__(self, entry):
        self.entry = entry


class OtherPrograms(WhosedayError):
    """Two nets have unlike programs."""


class OtherRoutes(WhosedayError):
    """Two nets have unlike routes."""


class NotARing(WhosedayError):
    """The names do not lead back to the program at which they begin."""

    def __init__(self, names):
        self.names = names


class NotHeld(WhosedayError):
    """The program holds nothing under the value."""

    def __init__(self, name):
        self.name = name


class BadDeed(WhosedayError):
    """The member with this index is not a deed."""

    def __init__(self, index):
        self.index = index

"""Nets that are led: programs that hold entries under names, and deeds that change them."""

from whoseday.copies import copied, entry_held, minutes_held, shown
from whoseday.entries import Entry
from whoseday.errors import (
    BadDeed, BadEntry, BadName, NoProgram, NoRoute, NothingToUndo, NotHeld, NoZone, WhosedayError,
)
from whoseday.points import need_known
from whoseday.relays import Relay
from whoseday.words import is_name, need_number

MOST_ROUNDS = 10 ** 30
# How many arguments each of the deeds has that can be done together.
ARGUMENTS = {"put": 3, "erase": 2, "send": 3, "turn": 1, "rounds": 1}


class Led:
    """A net whose programs hold entries under names; it is changed by deeds."""

    def __init__(self, net):
        self._net = net
        self._held = {}
        # For each deed the net ahead of it, and what was held: (program, name, entry or None).
        self._done = []

    @property
    def current(self):
        """The net."""
        return self._net

    @property
    def deeds(self):
        """The number of deeds that can be taken back."""
        return len(self._done)

    def put(self, p, name, entry):
        """The program p holds an entry under a name."""
        self._net.home_of(p)
        if not is_name(name):
            raise BadName(name)
        if not isinstance(entry, Entry):
            raise BadEntry(entry)
        need_known(self._net, p, entry)
        self._change([(p, name, entry)])

    def erase(self, p, name):
        """The program p holds nothing under a name any more."""
        self.held(p, name)
        self._change([(p, name, None)])

    def send(self, p, q, name):
        """The program q copies what p holds under a name."""
        self._net.home_of(p)
        self._net.home_of(q)
        if (p, q) not in self._net.routes:
            raise NoRoute(1)
        self._change([(q, name, copied(self._net, q, self.held(p, name)))])

    def turn(self, net):
        """Another net comes in the place of the net."""
        holding = [p for p in self._net.programs if self._held.get(p, {})]
        for p in holding:
            if p not in net.programs:
                raise NoProgram(p)
        for p in holding:
            for name in self.listed(p):
                zone = self._held[p][name].zone
                if zone is not None and zone not in net.zones:
                    raise NoZone(zone)
        self._change([])
        self._net = net

    def rounds(self, many):
        """Along all routes, in their order, all is copied that is held there, many times."""
        need_number(many, 0, MOST_ROUNDS)
        relays = {}
        changes = []
        for name in self._names():
            holders = self._holders(name)
            if holders not in relays:
                relays[holders] = _relays(self._net, holders, many)
            held = {p: minutes_held(self._held[p][name]) for p in holders}
            for relay in relays[holders]:
                held = relay.handed(held)
            changes.extend([(p, name, entry_held(one)) for p, one in held.items()])
        self._change(changes)

    def all_of(self, deeds):
        """Some deeds, one after the other, as one deed; if one of them fails, none is done."""
        for index, deed in enumerate(deeds):
            if not _is_deed(deed):
                raise BadDeed(index)
        net = self._net
        many = len(self._done)
        try:
            for deed in deeds:
                self._do(deed)
        except WhosedayError:
            while len(self._done) > many:
                self.undo()
            raise
        changes = [change for _, some in self._done[many:] for change in some]
        del self._done[many:]
        self._done.append((net, changes))

    def undo(self):
        """Takes back the last deed that is not taken back yet."""
        if not self._done:
            raise NothingToUndo()
        self._net, changes = self._done.pop()
        for p, name, entry in changes[::-1]:
            self._hold(p, name, entry)

    def held(self, p, name):
        """The entry that p holds under a name."""
        self._net.home_of(p)
        entry = self._entry_at(p, name)
        if entry is None:
            raise NotHeld(name)
        return entry

    def listed(self, p):
        """The names under which p holds something."""
        self._net.home_of(p)
        return tuple(sorted(list(self._held.get(p, {}))))

    def page(self, p):
        """The tuples (first day, last day, name) of all that p holds."""
        return tuple(sorted([(*shown(self._net, p, self._held[p][name]), name) for name in self.listed(p)]))

    def where(self, name):
        """The days on which programs show what they hold under a name: {program: (first, last)}."""
        return {p: shown(self._net, p, self._held[p][name]) for p in self._holders(name)}

    def agrees(self, name):
        """Tells whether all programs that hold something under a name show it on the same days."""
        days = list(self.where(name).values())
        return all([pair == days[0] for pair in days])

    def _names(self):
        """All names under which something is held."""
        return sorted({name for table in list(self._held.values()) for name in table})

    def _holders(self, name):
        """The programs that hold something under a name, in the order of the net."""
        return tuple([p for p in self._net.programs if self._entry_at(p, name) is not None])

    def _entry_at(self, p, name):
        """What p holds under any value; None if it holds nothing under it."""
        return self._held.get(p, {}).get(name) if isinstance(name, str) else None

    def _change(self, changes):
        """Lets programs hold entries under names, or nothing, as one deed."""
        self._done.append((self._net, [(p, name, self._entry_at(p, name)) for p, name, _ in changes]))
        for p, name, entry in changes:
            self._hold(p, name, entry)

    def _hold(self, p, name, entry):
        table = self._held.setdefault(p, {})
        if entry is not None:
            table[name] = entry
        elif name in table:
            del table[name]

    def _do(self, deed):
        """Does one of the deeds that are told by their names."""
        word, *values = deed
        if word == "put":
            self.put(*values)
        elif word == "erase":
            self.erase(*values)
        elif word == "send":
            self.send(*values)
        elif word == "turn":
            self.turn(*values)
        else:
            self.rounds(*values)


def _is_deed(deed):
    """Tells whether any value tells a deed: its name, and as many values as it has arguments."""
    if not isinstance(deed, (tuple, list)) or len(deed) == 0 or not isinstance(deed[0], str):
        return False
    return ARGUMENTS.get(deed[0]) == len(deed) - 1


def _relays(net, holders, many):
    """The relays, one behind the other, that many rounds are for what some programs hold at first."""
    found = []
    while many > 0:
        rows = _round_rows(net, holders)
        # As long as more programs come to hold it, the next round is another one.
        turns = many if len(rows) == len(holders) else 1
        found.append(Relay(net, rows, turns))
        holders = tuple(rows)
        many -= turns
    return found


def _round_rows(net, holders):
    """For each program that holds something behind a round the one that had it, and the row along which it came."""
    rows = {p: (p, ()) for p in holders}
    for start, goal in net.routes:
        if start in rows:
            giver, row = rows[start]
            rows[goal] = (giver, (*row, goal))
    return rows

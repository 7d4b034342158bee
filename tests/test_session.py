"""The session of the document, line by line as it stands there, and the head of the document over all files."""

import doctest
import random
import unittest

from tests.plain import random_entry, random_net
from tests.test_language import INTERFACE
from whoseday import (
    bands, copies, days, entries, errors, homes, laps, led, nets, pieces, repairs, spans, spreads, stairs, states, told, twins,
    unknown, weeks,
)

MODULES = {
    "bands": bands, "copies": copies, "days": days, "entries": entries, "errors": errors, "homes": homes, "laps": laps,
    "led": led, "nets": nets, "pieces": pieces, "repairs": repairs, "spans": spans, "spreads": spreads, "stairs": stairs,
    "states": states, "told": told, "twins": twins, "unknown": unknown, "weeks": weeks,
}
SESSION = r'''
>>> from whoseday.days import after, days_at, drift, growth
>>> from whoseday.entries import Entry
>>> from whoseday.nets import Net
>>> from whoseday.pieces import Days
>>> net = Net("zone here 0\nzone west -300\nprogram desk at here\n  day -> fixed 0 1439\nprogram phone at west\n  fixed -> day\nroute desk phone\nroute phone desk")
>>> entry = Entry("day 10 to 10")
>>> days = days_at(net, "phone", entry, "phone", 0)
>>> [days.greatest, days.goes_down, -1000 in days, 1 in days, days.next_to(-5)]
[0, True, True, False, -5]
>>> [after(net, "phone", entry, "phone", 0, 4), after(net, "phone", entry, "phone", 0, 3)]
[(-2, -2), None]
>>> [growth(net, "phone", entry, 0), drift(net, "phone", entry, 1)]
[((-1, 2), (-1, 2)), None]
>>> total = Days([("up", 2, 6)]) + Days([("up", 1, 4)])
>>> [day for day in range(14) if day in total]
[3, 7, 9, 11, 13]
'''


class SessionTest(unittest.TestCase):

    def test_the_session_as_it_stands(self):
        examples = doctest.DocTestParser().get_doctest(SESSION, {}, "session", None, 0)
        self.assertEqual(len(examples.examples), 12)
        lines = []
        result = doctest.DocTestRunner(verbose=False).run(examples, out=lines.append)
        self.assertEqual((result.failed, lines), (0, []))


class InterfaceTest(unittest.TestCase):

    def test_all_files_are_listed(self):
        self.assertEqual(sorted(INTERFACE), sorted(f"{name}.py" for name in MODULES))
        for file, listed in INTERFACE.items():
            for name in listed:
                thing = getattr(MODULES[file[:-3]], name)
                self.assertEqual(thing.__module__, f"whoseday.{file[:-3]}")

    def test_errors_stand_directly_below_one(self):
        for name in INTERFACE["errors.py"]:
            error = getattr(errors, name)
            self.assertEqual(error.__bases__, (ValueError if name == "WhosedayError" else errors.WhosedayError,))

    def test_rows_and_walks_may_be_lists(self):
        rng = random.Random(2)
        for _ in range(60):
            net = random_net(rng)
            entry, p = random_entry(rng, net), rng.choice(net.programs)
            row = []
            for _ in range(5):
                row += rng.sample(net.targets_of((p, *row)[-1]), min(1, len(net.targets_of((p, *row)[-1]))))
            self.assertEqual(copies.along(net, [p, *row], entry), copies.along(net, (p, *row), entry))
            self.assertEqual(states.States(net, p, entry, 0).lead(row), states.States(net, p, entry, 0).lead(tuple(row)))
            if row and p in row:
                walk = [p, *row[:row.index(p) + 1]]
                self.assertEqual(laps.lapped(net, walk, 9, entry), laps.lapped(net, tuple(walk), 9, entry))
                for kind in (list, tuple):
                    settled = homes.settles(net, p, kind(row[:0]), kind(walk[1:]), entry, 1)
                    self.assertEqual(settled.days_after(1), copies.moved_days(net, walk, entry)[1])

    def test_arguments_with_a_default_are_passed_by_their_names(self):
        net = nets.Net("zone a 0\nprogram p at a")
        entry = entries.Entry("day 1 to 2")
        self.assertIs(repairs.holds(net, "p", entry, width=5), True)
        self.assertEqual(repairs.repair(net, "p", entry, [], width=None), ())
        self.assertEqual(repairs.cut(net, "p", entry, width=1680), ())
        self.assertEqual(weeks.shifts(net, "p", entry, "p", 0, cycle=3), (0,))
        self.assertEqual(weeks.next_on(net, "p", entry, "p", 1, low=0, rest=2, cycle=3), 2)

    def test_values_of_other_kinds_are_not_equal(self):
        net = nets.Net("zone a 0\nprogram p at a")
        entry = entries.Entry("day 1 to 2")
        origin = spreads.Origin("p", "float", None, 1, 2)
        for one in (net, entry, origin):
            for other in (one.__dict__, "zone a 0\nprogram p at a", "day 1 to 2", None, 5, net, entry, origin):
                self.assertIs(one == other, one is other)
                self.assertIs(one != other, one is not other)


if __name__ == "__main__":
    unittest.main()

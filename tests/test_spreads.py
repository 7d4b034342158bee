"""Points 27 and 28: origins, stretches and their greatest sums."""

import random
import unittest

from tests.plain import held, plain_clock, plain_reach, random_entry, random_net
from tests.test_unknown import DAY, NET
from tests.values import Thing, no_names, odd_values
from whoseday.entries import Entry
from whoseday.errors import NoProgram, NoZone
from whoseday.nets import Net
from whoseday.spreads import Origin, origins, spread, spread_table, spread_walk, sums
from whoseday.unknown import added

FIXED = Entry("fixed 600 to 659")
CLOCKED = ("float", "zoned", "fixed")


def all_sets(zones):
    return [[zone for at, zone in enumerate(zones) if number >> at & 1] for number in range(2 ** len(zones))]


def counts(net, p, q, kind, zone, high):
    """Where a copy leads, as a form, and what it counts, by the words of the document."""
    kind, zone, pair = added(net, p, q, kind, zone)
    head, tail = (False, False) if pair is None else (pair[0] in high, pair[1] in high)
    return (q, kind, zone), 1 if head and not tail else -1 if tail and not head else 0


def forms_and_steps(net, form, high):
    """The forms at the ends of stretches and the steps (goal, count, name) between them."""
    found = [form]
    steps = []
    for p, kind, zone in found:
        row = []
        for q in net.targets_of(p) if kind != "day" else ():
            goal, count = counts(net, p, q, kind, zone, high)
            if goal not in found:
                found.append(goal)
            row.append((found.index(goal), count, q))
        steps.append(row)
    return found, steps


def plain_sums(net, form, high):
    """The greatest sums by the forms at the end; None if there is none, by ways within many counts."""
    found, steps = forms_and_steps(net, form, high)
    bound = 3 * len(found) + 3
    best = {}
    for node, total in plain_reach(steps, bound):
        best[node] = max(total, best.get(node, total))
    if max(best.values()) > len(found):
        return None
    return {found[node]: total for node, total in best.items()}


def plain_spread(net, form):
    tables = [plain_sums(net, form, high) for high in all_sets(net.zones)]
    return None if None in tables else max(max(table.values()) for table in tables)


class OriginTest(unittest.TestCase):

    def test_attributes_of_any_values(self):
        values = odd_values()[:5]
        origin = Origin(*values)
        self.assertEqual(list(vars(origin).items()), list(zip(["program", "kind", "zone", "first", "last"], values)))

    def test_room(self):
        for first, last, room in [
            (0, 1439, 0), (600, 659, 600), (720, 720, 719), (719, 719, 719), (1439, 1439, 0), (1000, 5, 5), (5, 1430, 5),
            (20, 1430, 9), (1400, 700, 39), (0, 0, 0),
        ]:
            self.assertEqual(Origin("p", "float", None, first, last).room, room)

    def test_equal_if_all_attributes_are(self):
        parts = ["p", "zoned", "a", 1, 2]
        self.assertEqual(Origin(*parts), Origin(*parts))
        for at in range(5):
            for other in ("z", None, 3):
                changed = [*parts[:at], other, *parts[at + 1:]]
                self.assertIs(Origin(*parts) == Origin(*changed), False)
                self.assertIs(Origin(*parts) != Origin(*changed), True)
        for other in [None, tuple(parts), parts, 5, "p", Thing(), DAY]:
            self.assertIs(Origin(*parts) == other, False)


class OriginsTest(unittest.TestCase):

    def test_example_by_hand(self):
        found = origins(NET, "p", FIXED)
        self.assertEqual(found, [Origin("p", "fixed", None, 600, 659)])
        self.assertIs(type(found), list)
        self.assertEqual(found[0].room, 600)

    def test_the_beginning_by_the_offsets_of_the_net(self):
        for text, wanted in [
            ("fixed -61 to 1379", (1439, 1439)), ("fixed -60 to 1380", (0, 0)), ("float -1 to 1440", (1439, 0)),
            ("zoned -1 to 1440 b", (1439, 0)), ("zoned -1 to 1440 a", (59, 60)), ("fixed 14400 to 28860", (60, 120)),
        ]:
            entry = Entry(text)
            self.assertEqual(origins(NET, "q", entry), [Origin("q", entry.kind, entry.zone, *wanted)])

    def test_programs_that_make_clocks_of_days(self):
        net = Net(
            "zone a 60\nzone b 0\nprogram s at a\n  day -> zoned 5 6\nprogram p at a\n  day -> float 0 1439\n  float -> day\n"
            "program q at b\n  day -> fixed 7 8\n  float -> day\nprogram r at a\nprogram u at b\n  day -> float 3 4\n"
            "route p p\nroute p q\nroute q s\nroute r s\nroute r r\nroute u r"
        )
        s, p, q = Origin("s", "zoned", "a", 5, 6), Origin("p", "float", None, 0, 1439), Origin("q", "fixed", None, 7, 8)
        self.assertEqual(origins(net, "p", DAY), [s, p, q])
        self.assertEqual(origins(net, "r", DAY), [s])
        self.assertEqual(origins(net, "s", DAY), [])
        self.assertEqual(origins(net, "q", DAY), [s])
        self.assertEqual(origins(net, "q", Entry("float 1 to 2")), [Origin("q", "float", None, 1, 2)])
        # The beginning and another origin may be equal.
        self.assertEqual(origins(net, "p", Entry("float 0 to 1439")), [p, s, p, q])
        self.assertEqual(origins(net, "u", Entry("float 0 to 1439")), [Origin("u", "float", None, 0, 1439)])
        self.assertEqual(origins(net, "r", Entry("zoned 5 to 6 a")), [Origin("r", "zoned", "a", 5, 6)])

    def test_against_all_forms(self):
        rng = random.Random(27)
        for _ in range(200):
            net = random_net(rng, programs=5, routes=rng.randint(2, 10))
            entry = random_entry(rng, net)
            p = rng.choice(net.programs)
            seen = [(p, entry.kind, entry.zone)]
            makers = set()
            for program, kind, zone in seen:
                for q in net.targets_of(program):
                    later = (q, *added(net, program, q, kind, zone)[:2])
                    if kind == "day" and later[1] != "day":
                        makers.add(q)
                    if later not in seen:
                        seen.append(later)
            found = origins(net, p, entry)
            if entry.kind != "day":
                first, last = plain_clock(net, p, held(entry))
                self.assertEqual(found.pop(0), Origin(p, entry.kind, entry.zone, first % 1440, last % 1440))
            self.assertEqual([one.program for one in found], [q for q in net.programs if q in makers])
            for one in found:
                kind, early, late = net.rule_of(one.program, "day").split()
                zone = net.home_of(one.program) if kind == "zoned" else None
                self.assertEqual(one, Origin(one.program, kind, zone, int(early), int(late)))

    def test_errors(self):
        east = Entry("zoned 0 to 0 east")
        for value in no_names() + ["a", "zzz"]:
            for entry in (DAY, east):
                with self.assertRaises(NoProgram) as caught:
                    origins(NET, value, entry)
                self.assertIs(caught.exception.name, value)
        with self.assertRaises(NoZone) as caught:
            origins(NET, "p", east)
        self.assertEqual(caught.exception.name, "east")


class SpreadTest(unittest.TestCase):

    def form(self, rng, net):
        kind = rng.choice(CLOCKED)
        return rng.choice(net.programs), kind, rng.choice(net.zones) if kind == "zoned" else None

    def test_examples_by_hand(self):
        self.assertEqual(spread(NET, "p", "fixed", None), 2)
        self.assertEqual(sums(NET, "p", "fixed", None, ("b", "d")), {
            ("p", "fixed", None): 0, ("q", "float", None): 1, ("r", "fixed", None): 1, ("t", "float", None): 2,
        })
        table = spread_table(NET)
        self.assertEqual(len(table), 12)
        self.assertEqual([table["p", "fixed"], table["p", "float"], table["r", "zoned"], table["t", "fixed"]], [2, 1, 1, 0])
        self.check_walk(NET, ("p", "fixed", None))

    def test_days_are_the_end_of_a_stretch(self):
        net = Net(
            "zone a 0\nzone b 0\nprogram p at a\nprogram q at b\n  fixed -> day\n  day -> fixed 0 0\nroute p q\nroute q q\nroute q p"
        )
        self.assertEqual(spread(net, "p", "fixed", None), 1)
        self.assertEqual(sums(net, "p", "fixed", None, ["b"]), {("p", "fixed", None): 0, ("q", "day", None): 1})
        self.assertEqual(sums(net, "q", "fixed", None, ("b",)), {
            ("q", "fixed", None): 0, ("q", "day", None): 0, ("p", "fixed", None): -1,
        })
        self.assertEqual(sums(net, "q", "fixed", None, ("a",)), {
            ("q", "fixed", None): 0, ("q", "day", None): 0, ("p", "fixed", None): 1,
        })

    def test_no_greatest_sum(self):
        # Each round of p and q adds b less a.
        net = Net(
            "zone a 0\nzone b 0\nzone c 0\nprogram p at a\n  fixed -> float\nprogram q at b\n  float -> fixed\nprogram r at c\n"
            "route p q\nroute q p\nroute r p"
        )
        self.assertIsNone(spread(net, "p", "float", None))
        self.assertIsNone(sums(net, "r", "float", None, ("a",)))
        self.assertIsNone(sums(net, "r", "float", None, ("a", "c")))
        self.assertEqual(sums(net, "r", "float", None, ("b", "a"))["q", "fixed", None], 0)
        for form in [("p", "float", None), ("r", "fixed", None), ("r", "zoned", "b")]:
            self.check_walk(net, form)

    def test_against_all_stretches(self):
        rng = random.Random(28)
        found = {}
        for _ in range(150):
            net = random_net(rng, programs=rng.randint(1, 5), zones=rng.randint(1, 4), routes=rng.randint(1, 12))
            form = self.form(rng, net)
            wanted = plain_spread(net, form)
            self.assertEqual(spread(net, *form), wanted)
            found[wanted] = found.get(wanted, 0) + 1
            for high in all_sets(net.zones):
                rng.shuffle(high)
                self.assertEqual(sums(net, *form, tuple(high)), plain_sums(net, form, high))
            self.check_walk(net, form)
        self.assertTrue({None, 0, 1, 2} <= set(found), found)

    def check_walk(self, net, form):
        """What spread_walk tells, gone along copy by copy."""
        high, way, ring = spread_walk(net, *form)
        for part in (high, way, ring):
            self.assertIs(type(part), tuple)
        self.assertEqual(len(set(high)), len(high))
        self.assertTrue(set(high) <= set(net.zones))
        wanted = spread(net, *form)
        end, total = self.go(net, form, way, high)
        if wanted is not None:
            self.assertEqual((ring, total), ((), wanted))
            return
        self.assertNotEqual(end[1], "day")
        self.assertGreater(len(ring), 0)
        back, more = self.go(net, end, ring, high)
        self.assertEqual(back, end)
        self.assertGreaterEqual(more, 1)

    def go(self, net, form, row, high):
        total = 0
        for q in row:
            self.assertIn((form[0], q), net.routes)
            self.assertNotEqual(form[1], "day")
            form, count = counts(net, form[0], q, *form[1:], high)
            total += count
        return form, total

    def test_table_of_all_programs_and_kinds(self):
        rng = random.Random(29)
        for _ in range(40):
            net = random_net(rng, programs=rng.randint(1, 5), zones=rng.randint(1, 5), routes=rng.randint(1, 14))
            table = spread_table(net)
            self.assertEqual(sorted(table), sorted((p, kind) for p in net.programs for kind in CLOCKED))
            for (p, kind), told in table.items():
                self.assertEqual(told, spread(net, p, kind, net.home_of(p) if kind == "zoned" else None))
        self.assertEqual(spread_table(Net("")), {})
        self.assertEqual(spread_table(Net("zone a 0")), {})

    def test_a_great_net(self):
        rng = random.Random(30)
        net = random_net(rng, programs=8, zones=6, routes=40)
        table = spread_table(net)
        for (p, kind), told in table.items():
            self.check_walk(net, (p, kind, net.home_of(p) if kind == "zoned" else None))
            self.assertTrue(told is None or told >= 0)

    def test_errors_in_their_order(self):
        for ask in (spread, spread_walk, lambda *args: sums(*args, ("zzz",))):
            for value in no_names() + ["a", "zzz"]:
                for zone in ("a", "zzz"):
                    with self.assertRaises(NoProgram) as caught:
                        ask(NET, value, "zoned", zone)
                    self.assertIs(caught.exception.name, value)
            for value in no_names() + ["p", "zzz"]:
                with self.assertRaises(NoZone) as caught:
                    ask(NET, "p", "zoned", value)
                self.assertIs(caught.exception.name, value)
        for value in no_names() + ["p", "zzz"]:
            for high in ([value], ("a", value), ["a", "b", value, "yyy"], (value, None)):
                with self.assertRaises(NoZone) as caught:
                    sums(NET, "p", "fixed", None, high)
                self.assertIs(caught.exception.name, value)


if __name__ == "__main__":
    unittest.main()

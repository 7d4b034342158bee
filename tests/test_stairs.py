"""Points 32 and 33: behind how many copies a net is right, and within which width."""

import itertools
import random
import unittest

from tests.plain import held, plain_copy, plain_shown, random_entry, random_net, turning_net
from tests.test_bands import FIXED, NOON, RING, walks
from tests.test_states import DAY, N, field_of
from tests.test_twins import seconds
from tests.test_unknown import NET
from tests.values import no_names, odd_values
from whoseday.bands import is_right, right_hours, right_minutes, widest, wrong
from whoseday.entries import Entry
from whoseday.errors import BadNumber, NoProgram, NoZone
from whoseday.nets import Net
from whoseday.spreads import origins, spread, spread_table, spread_walk, sums
from whoseday.stairs import right_copies, widest_after
from whoseday.unknown import added, as_shown

# A walk of two copies adds b less a to a clock; the day that t makes of it gets a clock again at u.
TWO = Net(
    "zone a 0\nzone b 0\nprogram p at a\nprogram q at b\n  fixed -> float\nprogram t at a\n  float -> day\n"
    "program u at a\n  day -> fixed 100 1439\nprogram v at b\n  fixed -> float\n"
    "route p q\nroute q t\nroute t u\nroute u v"
)


def plain_right(net, p, entry, width, copies):
    """Tells whether the entry stays on its days behind so many copies, for the farthest offsets of each zone.

    Clocks are sums of offsets, so they are farthest where each offset is the least or the greatest one.
    """
    low = min(0, 840 - width)
    for choice in itertools.product((0, width), repeat=len(net.zones)):
        other, moved = as_shown(net, p, entry, {zone: low + more for zone, more in zip(net.zones, choice)})
        days = plain_shown(other, p, held(moved))
        level = {(p, held(moved))}
        for _ in range(copies):
            level = {(q, plain_copy(other, q, one)) for at, one in level for q in other.targets_of(at)}
            if any(plain_shown(other, at, one) != days for at, one in level):
                return False
    return True


def plain_widest_after(net, p, entry, n):
    """The greatest width behind n copies, by all walks: what each has added to a clock, zone by zone."""
    rooms = {origin.program: origin.room for origin in origins(net, p, entry)[0 if entry.kind == "day" else 1:]}
    room = None if entry.kind == "day" else origins(net, p, entry)[0].room
    level = {(p, entry.kind, entry.zone, room, (0,) * len(net.zones))}
    bound = None
    for _ in range(n):
        later = set()
        for q, kind, zone, room, sums in level:
            for goal in net.targets_of(q):
                new_kind, new_zone, pair = added(net, q, goal, kind, zone)
                if kind == "day":
                    later.add((goal, new_kind, new_zone, None if new_kind == "day" else rooms[goal], (0,) * len(sums)))
                    continue
                found = list(sums)
                for name, count in zip(pair or (), (1, -1)):
                    found[net.zones.index(name)] += count
                worst = sum(count for count in found if count > 0)
                if worst > 0:
                    bound = room // worst if bound is None else min(bound, room // worst)
                if new_kind == "day":
                    later.add((goal, "day", None, None, (0,) * len(sums)))
                else:
                    later.add((goal, new_kind, new_zone, room, tuple(found)))
        level = later
    return bound


# A row of ten programs in which clocks lose one zone and gain another one.
ROW = Net(
    "zone a 0\nzone b -567\nzone c -840\nzone d -697\nzone e -28\nzone f -583\nprogram pa at e\n  fixed -> float\n"
    "program pb at b\n  float -> fixed\nprogram pc at b\n  float -> zoned\nprogram pd at e\n  fixed -> float\n"
    "program pe at b\n  float -> fixed\nprogram pf at e\n  fixed -> float\nprogram pg at b\n  float -> zoned\n"
    "program ph at e\n  zoned -> home float\nprogram pi at e\n  fixed -> float\nprogram pj at b\n"
    "route ph pb\nroute pf pc\nroute pe pa\nroute pc ph\nroute pb pd\nroute pd pe\nroute pa pg\nroute pj pf\nroute pg pi"
)
LONG = Entry("fixed 1275184 to 1276391")


class ExamplesTest(unittest.TestCase):

    def test_what_copies_add(self):
        self.assertEqual(added(NET, "p", "q", "fixed", None), ("float", None, ("b", "a")))
        self.assertEqual(added(NET, "q", "r", "float", None), ("fixed", None, None))
        self.assertEqual(spread(NET, "p", "fixed", None), 2)
        self.assertEqual(sums(NET, "p", "fixed", None, ("b", "d")), {
            ("p", "fixed", None): 0, ("q", "float", None): 1, ("r", "fixed", None): 1, ("t", "float", None): 2,
        })
        self.assertEqual(spread_walk(NET, "p", "fixed", None)[1:], (("q", "r", "t"), ()))
        table = spread_table(NET)
        self.assertEqual(len(table), 12)
        self.assertEqual([table["p", "fixed"], table["p", "float"], table["r", "zoned"], table["t", "fixed"]], [2, 1, 1, 0])

    def test_widths(self):
        (origin,) = origins(NET, "p", FIXED)
        self.assertEqual((origin.first, origin.last, origin.room), (600, 659, 600))
        self.assertEqual(widest(NET, "p", FIXED), 300)
        self.assertIsNone(wrong(NET, "p", FIXED, 300))
        self.assertIsNotNone(wrong(NET, "p", FIXED, 301))
        self.assertEqual(right_minutes(NET, "p", FIXED, 100), [(200, 1180)])

    def test_stairs(self):
        self.assertEqual(right_copies(NET, "p", FIXED, 400), 2)
        self.assertEqual(widest_after(NET, "p", FIXED, 2), 600)
        self.assertEqual(widest_after(NET, "p", FIXED, 3), 300)
        self.assertIsNone(widest_after(NET, "p", FIXED, 0))

    def test_days(self):
        (origin,) = origins(N, "phone", DAY)
        self.assertEqual((origin.program, origin.first, origin.last, origin.room), ("desk", 0, 1439, 0))
        self.assertEqual((spread(N, "desk", "fixed", None), widest(N, "phone", DAY)), (1, 0))
        (origin,) = origins(NOON, "phone", DAY)
        self.assertEqual((origin.room, widest(NOON, "phone", DAY)), (719, 719))
        self.assertEqual(right_hours(NOON, "phone", DAY, "desk", 100), (100, 1339))


class StairsTest(unittest.TestCase):

    def test_copies_are_counted_from_the_beginning(self):
        self.assertEqual([right_copies(NET, "p", FIXED, width) for width in (0, 300, 301, 600, 601, 1680)], [None, None, 2, 2, 0, 0])
        # The day comes to desk by the first copy, its clock is wrong by the second one.
        self.assertEqual([right_copies(N, "phone", DAY, width) for width in (0, 1, 1680)], [None, 1, 1])
        self.assertEqual([right_copies(NOON, "phone", DAY, width) for width in (719, 720)], [None, 1])
        self.assertEqual([widest_after(NOON, "phone", DAY, n) for n in (0, 1, 2, 60)], [None, None, 719, 719])

    def test_the_origin_that_is_wrong_first(self):
        near, far = Entry("fixed 50 to 1339"), Entry("fixed 300 to 1139")
        self.assertEqual([right_copies(TWO, "p", near, width) for width in (0, 1, 50, 51)], [None, 3, 3, 0])
        self.assertEqual([widest_after(TWO, "p", near, n) for n in (0, 1, 2, 3, 4)], [None, 50, 50, 50, 0])
        late = TWO.with_rule("u", "day", "fixed 100 1339")
        self.assertEqual([right_copies(late, "p", far, width) for width in (100, 101, 300, 301)], [None, 3, 3, 0])
        self.assertEqual([widest_after(late, "p", far, n) for n in (1, 3, 4, 60)], [300, 300, 100, 100])

    def test_right_within_all_widths(self):
        for net, p, entry in [
            (RING.without_route("q", "p"), "q", Entry("float 0 to 1")), (NET, "t", Entry("fixed 0 to 1439")),
            (N.without_route("desk", "phone"), "phone", DAY),
        ]:
            self.assertIsNone(right_copies(net, p, entry, 1680))
            self.assertIsNone(widest_after(net, p, entry, 60))

    def test_clocks_that_wander_for_ever(self):
        # Each lap of two copies adds a less b once, by the copy of p.
        entry = Entry("float 719 to 719")
        self.assertEqual(right_copies(RING, "p", entry, 1), 2 * 720 - 1)
        self.assertEqual(right_copies(RING, "p", entry, 719), 3)
        self.assertEqual(right_copies(RING, "q", Entry("fixed 719 to 720"), 1), 2 * 720 - 2)
        self.assertEqual([widest_after(RING, "p", entry, n) for n in (1, 2, 3, 4, 59, 60)], [None, 719, 719, 359, 24, 23])
        self.assertEqual(right_copies(RING, "p", Entry("float 0 to 0"), 1), 1)

    def test_a_slow_ring_and_a_short_way(self):
        # A ring of six copies adds two offsets, one of two copies one, and so do stretches beside them.
        names = "abcdefghij"
        net = Net("zone x 0\nzone y 0\n" + "\n".join(
            f"program {name} at {'xy'[place % 2]}\n  fixed -> float\n  float -> fixed" if place < 2 else f"program {name} at x"
            for place, name in enumerate(names)
        ) + "\n" + "\n".join(f"route {one} {other}" for one, other in zip(names, names[1:] + "a")))
        found = right_copies(net, "a", Entry("fixed 700 to 700"), 7)
        self.assertIsNotNone(found)
        self.assertTrue(plain_right(net, "a", Entry("fixed 700 to 700"), 7, found))
        self.assertFalse(plain_right(net, "a", Entry("fixed 700 to 700"), 7, found + 1))

    def check(self, net, p, entry, width, copies):
        found = right_copies(net, p, entry, width)
        self.assertEqual(found is None, is_right(net, p, entry, width))
        for n in range(copies + 1):
            self.assertEqual(plain_right(net, p, entry, width, n), found is None or n <= found)
        for n in {0, copies // 2, copies}:
            bound = widest_after(net, p, entry, n)
            self.assertTrue(plain_right(net, p, entry, 1680 if bound is None else bound, n))
            if bound is not None:
                self.assertTrue(0 <= bound < 1680)
                self.assertFalse(plain_right(net, p, entry, bound + 1, n))
        return found

    def test_random_nets(self):
        rng = random.Random(32)
        told = []
        for turn in range(220):
            net = random_net(rng, programs=rng.randint(1, 5), zones=rng.randint(1, 3), routes=rng.randint(1, 9), step=100)
            if turn % 3 == 0:
                net = turning_net(rng, 3, rng.randint(2, 6))
            entry = random_entry(rng, net)
            told.append(self.check(net, rng.choice(net.programs), entry, rng.choice([0, 1, 60, 300, 719, 1000, 1680]), 5))
        self.assertTrue({None, 0, 1, 2, 3} <= set(told), set(told))

    def test_bounds_of_the_last_copy_on_a_long_walk(self):
        rng = random.Random(33)
        kinds = set()
        for _ in range(400):
            net = random_net(rng, programs=4, zones=2, routes=6, step=100)
            entry, width = random_entry(rng, net), rng.choice([20, 40, 60])
            found = right_copies(net, "p", entry, width)
            if found is not None and 5 < found < 40:
                self.assertTrue(plain_right(net, "p", entry, width, found))
                self.assertFalse(plain_right(net, "p", entry, width, found + 1))
                self.assertGreaterEqual(widest_after(net, "p", entry, found), width)
                self.assertLess(widest_after(net, "p", entry, found + 1), width)
                kinds.add(found)
        self.assertGreater(len(kinds), 3)

    def test_many_programs_and_zones(self):
        rng = random.Random(34)
        for turn in range(3):
            names = "abcdefghijkl"
            zones = "uvwxyz"
            rules = ["", "\n  zoned -> as if", "\n  zoned -> moved", "\n  fixed -> zoned", "\n  float -> zoned\n  zoned -> fixed"]
            lines = [f"zone {zone} 0" for zone in zones]
            lines += [f"program {name} at {rng.choice(zones)}{rng.choice(rules)}" for name in names]
            lines += [f"route {one} {other}" for one, other in rng.sample([(a, b) for a in names for b in names], 40)]
            net = Net("\n".join(lines))
            entry = Entry("zoned 700 to 720 w")
            bounds = [widest_after(net, "a", entry, n) for n in (1, 2, 4, 8, 30, 60)]
            self.assertEqual([bound is None for bound in bounds], sorted([bound is None for bound in bounds], reverse=True))
            plain = [bound for bound in bounds if bound is not None]
            self.assertEqual(plain, sorted(plain, reverse=True))
            found = right_copies(net, "a", entry, 1)
            self.assertEqual(found is None, is_right(net, "a", entry, 1))
            for n, bound in zip((1, 2, 4, 8, 30, 60), bounds):
                if bound is not None:
                    self.assertLess(right_copies(net, "a", entry, bound + 1), n)
                    again = right_copies(net, "a", entry, bound)
                    self.assertTrue(again is None or again >= n)

    def test_walks_one_by_one(self):
        self.assertEqual(len(walks(NET, "p", 3)), 5)
        self.assertIs(plain_right(NET, "p", FIXED, 600, 2), True)
        self.assertIs(plain_right(NET, "p", FIXED, 601, 1), False)


class RowsTest(unittest.TestCase):

    def check(self, net, p, entry, numbers):
        found = [widest_after(net, p, entry, n) for n in numbers]
        self.assertEqual(found, [plain_widest_after(net, p, entry, n) for n in numbers])
        return found

    def row_of(self, rng, many, zones, *routes):
        """A net of programs, each of which copies from the one ahead of it."""
        names = [f"p{letter}" for letter in "abcdefghijkl"[:many]]
        lines = [f"zone {zone} {rng.randint(-840, 840)}" for zone in zones]
        for name in names:
            lines.append(f"program {name} at {rng.choice(zones)}")
            lines.extend(rng.sample(["  fixed -> float", "  float -> fixed", "  float -> zoned", "  zoned -> home float",
                                     "  day -> zoned 300 1100"], 2) if rng.random() < 0.8 else ["  fixed -> float"])
            if lines[-1].split(" -> ")[0] == lines[-2].split(" -> ")[0]:
                lines.pop()
        rng.shuffle(names)
        pairs = [*zip(names, names[1:]), *[(names[one], names[other]) for one, other in routes]]
        return Net("\n".join(lines + [f"route {one} {other}" for one, other in pairs])), names

    def test_a_row_that_goes_on_losing_and_gaining(self):
        found = self.check(ROW, "pj", LONG, [0, 1, 2, 3, 4, 5, 6, 7, 8, 9, 10, 11, 30, 60])
        self.assertEqual((found[0], found[1], found[-1]), (None, 15, 3))
        self.assertEqual(found[9:], [3] * 5)
        # The clock of a day gets its minutes by a rule, and not by the entry.
        later = ROW.with_rule("pc", "float", "day").with_rule("ph", "day", "float 100 1300")
        self.check(later, "pj", LONG, [0, 1, 2, 3, 4, 5, 6, 7, 8, 9, 60])

    def test_rows_of_all_lengths(self):
        rng = random.Random(35)
        told = set()
        for _ in range(80):
            many = rng.randint(1, 12)
            net, names = self.row_of(rng, many, "abcdef"[:rng.randint(2, 6)])
            first = rng.randint(-9000, 9000)
            entry = Entry(f"{rng.choice(['fixed', 'float'])} {first} to {first + rng.choice([0, 59, 900])}")
            told.update(self.check(net, names[0], entry, [0, 1, many - 1, many, many + 1, 60]))
        self.assertGreater(len(told), 40)
        self.assertIn(None, told)

    def test_rings(self):
        rng = random.Random(36)
        told = set()
        for _ in range(40):
            many = rng.randint(1, 12)
            net, names = self.row_of(rng, many, "abcdef"[:rng.randint(2, 6)], (many - 1, rng.randrange(many)))
            entry = Entry(rng.choice(["fixed 719 to 719", "float 700 to 800", "day 1 to 2", f"zoned 719 to 720 {net.zones[0]}"]))
            told.update(self.check(net, names[0], entry, [0, 1, many, many + 1, 2 * many, 37, 60]))
        self.assertGreater(len(told), 30)

    def test_sums_go_on_rising_in_rings(self):
        names = "abcdefghijkl"
        lines = [f"zone {zone} 0" for zone in "uvwxyz"]
        for place, name in enumerate(names):
            lines += [f"program {name} at {'uvwxyz'[place % 6]}", "  float -> fixed" if place % 2 else "  fixed -> float"]
        ring = Net("\n".join(lines + [f"route {one} {other}" for one, other in zip(names, names[1:] + "a")]))
        found = self.check(ring, "a", Entry("float 719 to 719"), [0, 1, 2, 3, 10, 11, 12, 13, 24, 59, 60])
        self.assertEqual((found[0], found[-1]), (None, 719 // 30))
        both = ring.with_route("f", "a").with_route("l", "f")
        for n in (1, 6, 12, 18, 30):
            self.check(both, "a", Entry("float 719 to 719"), [n])

    def test_no_origin_ever_moves(self):
        still = Net("\n".join(line for line in ROW.text.split("\n") if not line.startswith(" ")))
        self.assertEqual(self.check(still, "pj", Entry("float 0 to 1439"), [0, 1, 9, 60]), [None] * 4)
        same = Net(ROW.text.replace(" at e", " at b"))
        self.assertEqual(self.check(same, "pj", LONG, [0, 1, 9, 60]), [None] * 4)
        self.assertEqual(self.check(same, "pj", Entry("day 1 to 1"), [0, 60]), [None] * 2)
        self.assertEqual(self.check(ROW, "pi", LONG, [0, 1, 60]), [None] * 3)

    def test_it_is_told_soon(self):
        self.assertLess(seconds(lambda: widest_after(ROW, "pj", LONG, 60)), 0.004)
        self.assertEqual(widest_after(ROW, "pj", LONG, 60), 3)


class ErrorsTest(unittest.TestCase):

    def test_errors_in_their_order(self):
        east = Entry("zoned 0 to 0 east")
        for ask in (right_copies, widest_after):
            for value in no_names() + ["zzz", "a"]:
                for entry, number in ((FIXED, 0), (east, 0), (east, value)):
                    with self.assertRaises(NoProgram) as caught:
                        ask(NET, value, entry, number)
                    self.assertIs(caught.exception.name, value)
            for value in [0, -1, 5000, *odd_values(), "x"]:
                with self.assertRaises(NoZone) as caught:
                    ask(NET, "p", east, value)
                self.assertEqual(caught.exception.name, "east")

    def test_numbers(self):
        for ask, most in ((right_copies, 1680), (widest_after, 60)):
            for value in [*odd_values(), -1, most + 1, 10 ** 30, -10 ** 5000, "", "1"]:
                for net, p, entry in ((NET, "p", FIXED), (N, "phone", DAY)):
                    with self.assertRaises(BadNumber) as caught:
                        ask(net, p, entry, value)
                    self.assertIs(field_of(caught.exception), value)
            for number in (0, 1, most - 1, most):
                ask(NET, "p", FIXED, number)


if __name__ == "__main__":
    unittest.main()

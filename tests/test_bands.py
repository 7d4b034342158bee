"""Points 29 to 31 and their examples: within which width a net is right."""

import random
import unittest

from tests.plain import held, plain_along, plain_copy, plain_shown, random_entry, random_net, turning_net
from tests.test_states import DAY, N
from tests.test_unknown import NET
from tests.values import no_names, odd_values
from whoseday.bands import is_right, right_hours, right_minutes, widest, wrong
from whoseday.copies import shown
from whoseday.entries import Entry
from whoseday.errors import BadEntry, BadNumber, NoHours, NoProgram, NoZone
from whoseday.nets import Net
from whoseday.spreads import origins, spread
from whoseday.unknown import as_shown

FIXED = Entry("fixed 600 to 659")
NOON = N.with_rule("desk", "day", "fixed 720 720")
RING = Net(
    "zone a 0\nzone b 0\nprogram p at a\n  fixed -> float\nprogram q at b\n  float -> fixed\nroute p q\nroute q p"
)


def walks(net, p, copies):
    line = [(p,)]
    found = list(line)
    for _ in range(copies):
        line = [(*walk, q) for walk in line for q in net.targets_of(walk[-1])]
        found += line
    return found


class Bands(unittest.TestCase):

    def assert_wrong(self, net, p, entry, width, told):
        """The offsets lie within the width, and the walk, gone along copy by copy, moves a point."""
        offsets, blocks = told
        self.assertEqual(sorted(offsets), sorted(net.zones))
        for offset in offsets.values():
            self.assertIs(type(offset), int)
            self.assertTrue(0 <= offset <= min(width, 720))
        other, moved = as_shown(net, p, entry, offsets)
        q, now = p, held(moved)
        self.assertIs(type(blocks), tuple)
        self.assertLessEqual(sum(len(row) for row, _ in blocks), 10000)
        for row, times in blocks:
            self.assertIs(type(row), tuple)
            self.assertGreaterEqual(len(row), 1)
            self.assertGreaterEqual(times, 1)
            for _ in range(times):
                before = (q, *now[:2])
                for name in row:
                    self.assertIn((q, name), net.routes)
                    self.assertTrue(times == 1 or now[0] != "day")
                    q, now = name, plain_copy(other, name, now)
                self.assertTrue(times == 1 or (q, *now[:2]) == before)
        self.assertNotEqual(plain_shown(other, q, now), plain_shown(other, p, held(moved)))

    def assert_right(self, rng, net, p, entry, width):
        """No offsets within the width that are tried move a point on a walk of some copies."""
        for _ in range(6):
            low = rng.randint(-840, 840 - width)
            high = rng.sample(net.zones, rng.randint(0, len(net.zones)))
            offsets = {zone: low + (width if zone in high else 0) for zone in net.zones}
            if rng.random() < 0.3:
                offsets = {zone: low + rng.randint(0, width) for zone in net.zones}
            other, moved = as_shown(net, p, entry, offsets)
            for walk in rng.sample(self.ways, min(20, len(self.ways))):
                last = plain_along(other, walk, held(moved))[-1]
                self.assertEqual(plain_shown(other, walk[-1], last), plain_shown(other, p, held(moved)))

    def check(self, rng, net, p, entry):
        """Holds is_right, widest and wrong against one another and against copies."""
        self.ways = walks(net, p, 6) if len(net.routes) <= 8 else walks(net, p, 4)
        bound = widest(net, p, entry)
        if bound is None:
            for width in (0, 1, 1680):
                self.assertIs(is_right(net, p, entry, width), True)
                self.assertIsNone(wrong(net, p, entry, width))
            self.assert_right(rng, net, p, entry, 1680)
            return None
        self.assertTrue(0 <= bound < 1680)
        for width in {0, bound // 2, bound}:
            self.assertIs(is_right(net, p, entry, width), True)
            self.assertIsNone(wrong(net, p, entry, width))
            self.assert_right(rng, net, p, entry, width)
        for width in {bound + 1, (bound + 1680) // 2 + 1, 1680}:
            self.assertIs(is_right(net, p, entry, width), False)
            self.assert_wrong(net, p, entry, width, wrong(net, p, entry, width))
        return bound


class WidthsTest(Bands):

    def test_examples_by_hand(self):
        self.assertEqual(widest(NET, "p", FIXED), 300)
        self.assertIs(is_right(NET, "p", FIXED, 300), True)
        self.assertIs(is_right(NET, "p", FIXED, 301), False)
        self.assertIsNone(wrong(NET, "p", FIXED, 300))
        self.assert_wrong(NET, "p", FIXED, 301, wrong(NET, "p", FIXED, 301))
        self.assert_wrong(NET, "p", FIXED, 301, ({"a": 301, "b": 0, "c": 301, "d": 0}, ((("q", "r", "t"), 1),)))
        self.assertEqual(origins(N, "phone", DAY)[0].room, 0)
        self.assertEqual(spread(N, "desk", "fixed", None), 1)
        self.assertEqual(widest(N, "phone", DAY), 0)
        self.assertEqual(widest(NOON, "phone", DAY), 719)
        self.assertEqual(origins(NOON, "phone", DAY)[0].room, 719)

    def test_random_nets(self):
        rng = random.Random(29)
        found = {}
        for _ in range(250):
            net = random_net(rng, programs=rng.randint(1, 5), zones=rng.randint(1, 4), routes=rng.randint(1, 10))
            entry = random_entry(rng, net)
            bound = self.check(rng, net, rng.choice(net.programs), entry)
            found[bound] = found.get(bound, 0) + 1
        self.assertGreater(found[None], 20)
        self.assertGreater(found[0], 20)
        self.assertGreater(len(found), 6)

    def test_nets_that_turn_days_into_moments(self):
        rng = random.Random(30)
        for _ in range(100):
            net = turning_net(rng, rng.randint(2, 6), rng.randint(2, 8))
            self.check(rng, net, "p", DAY)
            self.check(rng, net, "p", Entry("fixed 300 to 300"))

    def test_rooms_on_each_side(self):
        for text, bound in [
            ("fixed 720 to 720", 359), ("fixed 719 to 719", 359), ("fixed 10 to 720", 5), ("fixed 720 to 1430", 4),
            ("fixed 1000 to 1460", 10), ("fixed 1000 to 1450", 5), ("fixed -100 to 700", 49), ("fixed 0 to 5", 0),
        ]:
            self.assertEqual(widest(NET, "p", Entry(text)), bound)
            self.check(random.Random(31), NET, "p", Entry(text))

    def test_rings_that_go_on_for_ever(self):
        for text in ["float 720 to 720", "float 0 to 1439", "float 1439 to 1439", "float 5 to 6", "float 1430 to 1450"]:
            self.assertEqual(self.check(random.Random(32), RING, "p", Entry(text)), 0)
        self.assertIsNone(self.check(random.Random(33), RING.without_route("q", "p"), "p", Entry("float 0 to 1439")))

    def test_a_day_is_moved_ahead_of_its_origin(self):
        # From q a day may come to s a day early already, and s would move it back.
        net = Net(
            "zone a 0\nzone b 0\nprogram p at a\nprogram q at b\n  fixed -> day\nprogram s at a\n  day -> fixed 0 1439\nprogram t at b\n"
            "route p q\nroute q s\nroute s t"
        )
        for text in ["fixed 720 to 720", "fixed 0 to 1439", "fixed 3 to 3"]:
            self.check(random.Random(34), net, "p", Entry(text))

    def test_a_walk_to_an_origin_that_is_wrong_already(self):
        # The way to x moves days back by just as much as the way from x moves them on.
        net = Net(
            "zone c 0\nzone d 0\nprogram x at c\n  day -> fixed 1439 1439\nprogram p at c\nprogram y at d\n  day -> fixed 0 0\n"
            "program r at c\n  fixed -> day\nprogram s at d\n  fixed -> day\nroute p y\nroute y r\nroute r x\nroute x s"
        )
        self.assertEqual([one.program for one in origins(net, "p", DAY)], ["x", "y"])
        for width in (1, 720, 1680):
            self.assert_wrong(net, "p", DAY, width, wrong(net, "p", DAY, width))

    def test_right_behind_no_copies_and_without_routes(self):
        net = Net("zone a 0\nprogram p at a")
        for entry in (DAY, FIXED, Entry("zoned 0 to 1 a")):
            self.assertIsNone(widest(net, "p", entry))
            self.assertIs(is_right(net, "p", entry, 1680), True)

    def test_offsets_of_the_net_do_not_matter_but_for_the_clocks(self):
        for offset in (-840, 0, 60, 840):
            net = NET.with_offset("b", offset).with_offset("d", -offset)
            self.assertEqual(widest(net, "p", FIXED), 300)
            self.assertEqual(widest(net.with_offset("a", 100), "p", FIXED), 340)

    def test_bad_numbers_and_errors_in_their_order(self):
        east = Entry("zoned 0 to 0 east")
        asks = [is_right, wrong, right_minutes, lambda net, p, entry, width: right_hours(net, p, entry, "desk", width)]
        asks.append(lambda net, p, entry, width: right_hours(net, p, entry, "phone", width))
        for value in odd_values() + [-1, 1681, 10 ** 30, "0", ""]:
            for ask in asks:
                for entry in (DAY, FIXED):
                    with self.assertRaises(BadNumber) as caught:
                        ask(N, "phone", entry, value)
                    self.assertIs(caught.exception.number, value)
                with self.assertRaises(NoZone) as caught:
                    ask(N, "phone", east, value)
                self.assertEqual(caught.exception.name, "east")
        asks.append(lambda net, p, entry, width: widest(net, p, entry))
        for value in no_names() + ["west", "zzz"]:
            for ask in asks:
                for entry in (DAY, east):
                    for width in (1, None):
                        with self.assertRaises(NoProgram) as caught:
                            ask(N, value, entry, width)
                        self.assertIs(caught.exception.name, value)
            for entry in (DAY, east):
                with self.assertRaises(NoProgram) as caught:
                    right_hours(N, "phone", entry, value, None)
                self.assertIs(caught.exception.name, value)
                with self.assertRaises(NoProgram) as caught:
                    right_hours(N, value, entry, "zzzz", None)
                self.assertIs(caught.exception.name, value)
        with self.assertRaises(NoZone):
            widest(N, "phone", east)


class MinutesTest(Bands):

    def plain_pairs(self, net, p, entry, width):
        """The minutes one by one, each by is_right of the entry that is moved to it."""
        first = plain_shown_clock(net, p, entry)
        pairs = []
        for minute in range(1440):
            more = minute - first
            text = f"{entry.kind} {entry.first + more} to {entry.last + more}" + (f" {entry.zone}" if entry.zone else "")
            if is_right(net, p, Entry(text), width):
                if pairs and pairs[-1][1] == minute - 1:
                    pairs[-1] = (pairs[-1][0], minute)
                else:
                    pairs.append((minute, minute))
        return pairs

    def test_examples_by_hand(self):
        self.assertEqual(right_minutes(NET, "p", FIXED, 100), [(200, 1180)])
        self.assertIs(type(right_minutes(NET, "p", FIXED, 100)), list)

    def test_against_minutes_one_by_one(self):
        rng = random.Random(35)
        lengths = set()
        for turn in range(10):
            net = NET if turn % 2 else random_net(rng, programs=3, zones=3, routes=6)
            kind = rng.choice(["float", "zoned a", "fixed"])
            first = rng.randint(-2000, 2000)
            length = rng.choice([0, 59, 500, 700, 1000, 1439, 1440, 2000, 5000])
            entry = Entry(f"{kind.split()[0]} {first} to {first + length}" + (" a" if kind == "zoned a" else ""))
            p = "p" if turn % 2 else rng.choice(net.programs)
            for width in (0, 50, 200):
                found = right_minutes(net, p, entry, width)
                self.assertEqual(found, self.plain_pairs(net, p, entry, width))
                lengths.add(len(found))
        self.assertTrue({0, 1, 2} <= lengths, lengths)

    def test_two_bands_and_none(self):
        self.assertEqual(right_minutes(NET, "p", Entry("fixed 0 to 720"), 100), [(200, 519), (920, 1239)])
        self.assertEqual(right_minutes(NET, "p", Entry("fixed 0 to 720"), 0), [(0, 1439)])
        self.assertEqual(right_minutes(NET, "p", Entry("fixed 0 to 0"), 359), [(718, 721)])
        self.assertEqual(right_minutes(NET, "p", Entry("fixed 0 to 0"), 360), [])
        self.assertEqual(right_minutes(RING, "p", Entry("float 0 to 0"), 1), [])
        self.assertEqual(right_minutes(RING.without_route("q", "p"), "p", Entry("float 0 to 5"), 1680), [(0, 1439)])

    def test_another_origin_may_be_wrong(self):
        net = NOON.with_program("third", "here").with_route("third", "phone")
        entry = Entry("fixed 5 to 5")
        self.assertEqual(right_minutes(net, "third", entry, 719), [(719, 720)])
        self.assertEqual(right_minutes(net, "third", entry, 720), [])
        late = net.with_rule("desk", "day", "fixed 0 1439")
        self.assertEqual(right_minutes(late, "third", entry, 1), [])
        self.assertEqual(right_minutes(late, "third", entry, 0), [(0, 1439)])

    def test_days_have_no_minutes(self):
        for width in (0, 5, 1680):
            with self.assertRaises(BadEntry) as caught:
                right_minutes(N, "phone", DAY, width)
            self.assertIs(caught.exception.entry, DAY)


def plain_shown_clock(net, p, entry):
    """The shown clock of the first point, told by the days on which it shows from minute to minute."""
    first = entry.first
    if entry.kind == "zoned":
        first += net.offset_of(net.home_of(p)) - net.offset_of(entry.zone)
    if entry.kind == "fixed":
        first += net.offset_of(net.home_of(p))
    assert first // 1440 == shown(net, p, entry)[0]
    return first


class HoursTest(Bands):

    def plain_hours(self, net, p, entry, q, width):
        kind, early, late = net.rule_of(q, "day").split()
        length = int(late) - int(early)
        found = [
            minute for minute in range(1440 - length)
            if is_right(net.with_rule(q, "day", f"{kind} {minute} {minute + length}"), p, entry, width)
        ]
        self.assertEqual(found, list(range(found[0], found[-1] + 1)) if found else [])
        return (found[0], found[-1]) if found else None

    def test_examples_by_hand(self):
        self.assertEqual(right_hours(NOON, "phone", DAY, "desk", 100), (100, 1339))

    def test_against_hours_one_by_one(self):
        rng = random.Random(36)
        told = set()
        for _ in range(6):
            net = turning_net(rng, 4, 7)
            makers = [q for q in net.programs if net.rule_of(q, "day") != "keep"]
            for q in makers[:2]:
                entry = rng.choice([DAY, Entry("fixed 300 to 359"), Entry("float 0 to 5")])
                for width in (0, 40, 500):
                    found = right_hours(net, "p", entry, q, width)
                    self.assertEqual(found, self.plain_hours(net, "p", entry, q, width))
                    told.add(found is None)
        self.assertEqual(told, {True, False})

    def test_edges(self):
        self.assertEqual(right_hours(N, "phone", DAY, "desk", 0), (0, 0))
        self.assertIsNone(right_hours(N, "phone", DAY, "desk", 1))
        self.assertEqual(right_hours(NOON, "phone", DAY, "desk", 719), (719, 720))
        self.assertIsNone(right_hours(NOON, "phone", DAY, "desk", 720))
        self.assertEqual(right_hours(NOON, "phone", DAY, "desk", 0), (0, 1439))
        hour = N.with_rule("desk", "day", "fixed 0 60")
        self.assertEqual(right_hours(hour, "phone", DAY, "desk", 100), (100, 1279))
        self.assertEqual(right_hours(hour, "phone", DAY, "desk", 689), (689, 690))
        self.assertIsNone(right_hours(hour, "phone", DAY, "desk", 690))

    def test_a_rule_that_no_day_comes_to(self):
        net = NOON.with_program("third", "west").with_rule("third", "day", "float 5 65")
        for width in (0, 1680):
            self.assertEqual(right_hours(net.without_route("desk", "phone"), "phone", DAY, "third", width), (0, 1379))
        self.assertEqual(right_hours(net, "phone", DAY, "third", 719), (0, 1379))
        self.assertIsNone(right_hours(net, "phone", DAY, "third", 720))

    def test_hours_that_wander_for_ever(self):
        net = RING.with_program("r", "a").with_rule("r", "day", "float 720 725").with_route("r", "p")
        net = net.with_program("s", "a").with_route("s", "r")
        self.assertEqual(right_hours(net, "s", DAY, "r", 0), (0, 1434))
        for width in (1, 2, 1680):
            self.assertIsNone(right_hours(net, "s", DAY, "r", width))
        self.assertEqual(right_hours(net.without_route("q", "p"), "s", DAY, "r", 1680), (0, 1434))

    def test_the_beginning_is_no_rule_for_days(self):
        # The entry begins at the program whose hours are asked for, and has minutes of its own.
        net = NOON.with_route("desk", "desk")
        self.assertIsNone(right_hours(net, "desk", Entry("fixed 5 to 5"), "desk", 6))
        self.assertEqual(right_hours(net, "desk", Entry("fixed 5 to 5"), "desk", 5), (5, 1434))

    def test_programs_that_keep_days(self):
        for width in (0, 1680):
            with self.assertRaises(NoHours) as caught:
                right_hours(N, "phone", DAY, "phone", width)
            self.assertEqual(caught.exception.program, "phone")


if __name__ == "__main__":
    unittest.main()

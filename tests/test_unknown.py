"""Points 25 and 26: assignments of offsets, and what a copy adds."""

import random
import unittest

from tests.plain import KINDS, ZONED_RULES, held, plain_clock, plain_copy, random_entry, random_net
from tests.values import Same, integers, no_names, odd_values
from whoseday.copies import clock, shown
from whoseday.entries import Entry
from whoseday.errors import BadOffsets, NoProgram, NoZone
from whoseday.nets import Net
from whoseday.unknown import added, as_shown

NET = Net(
    "zone a 0\nzone b 60\nzone c 0\nzone d 60\nprogram p at a\nprogram q at b\n  fixed -> float\nprogram r at c\n"
    "  float -> fixed\nprogram t at d\n  fixed -> float\nroute p q\nroute q r\nroute r t\nroute p t"
)
OFFSETS = {"a": 1, "b": -840, "c": 840, "d": 0}
DAY = Entry("day 1 to 2")


class AsShownTest(unittest.TestCase):

    def test_clocks_stay_as_they_are_shown(self):
        rng = random.Random(25)
        for _ in range(200):
            net = random_net(rng, step=7)
            entry = random_entry(rng, net, step=119)
            p = rng.choice(net.programs)
            offsets = {zone: rng.choice([-840, 840, 0, rng.randint(-840, 840)]) for zone in reversed(net.zones)}
            pair = as_shown(net, p, entry, offsets)
            self.assertIs(type(pair), tuple)
            other, moved = pair
            self.assertEqual({zone: other.offset_of(zone) for zone in other.zones}, offsets)
            self.assertEqual(other.zones, net.zones)
            back = other
            for zone in net.zones:
                back = back.with_offset(zone, net.offset_of(zone))
            self.assertEqual(back, net)
            self.assertEqual((moved.kind, moved.zone), (entry.kind, entry.zone))
            self.assertEqual(clock(other, p, moved), clock(net, p, entry))
            self.assertEqual(shown(other, p, moved), shown(net, p, entry))
            if entry.kind in ("day", "float"):
                self.assertEqual(moved, entry)

    def test_values_by_hand(self):
        for text, wanted in [
            ("day 5 to 6", "day 5 to 6"), ("float -5 to 6", "float -5 to 6"), ("fixed -5 to 6", "fixed 895 to 906"),
            ("zoned -5 to 6 b", "zoned -5 to 6 b"), ("zoned -5 to 6 c", "zoned 1735 to 1746 c"),
        ]:
            self.assertEqual(as_shown(NET, "q", Entry(text), OFFSETS)[1].text, wanted)
        self.assertEqual(as_shown(NET, "q", Entry("fixed 0 to 1"), {**OFFSETS, "b": 60})[1].text, "fixed 0 to 1")

    def test_the_net_and_the_offsets_are_left_as_they_are(self):
        text, offsets = NET.text, dict(OFFSETS)
        as_shown(NET, "p", DAY, offsets)
        self.assertEqual((NET.text, offsets), (text, OFFSETS))

    def test_great_values(self):
        great = 10 ** 30 - 1
        moved = as_shown(NET, "q", Entry(f"fixed {great} to {great}"), OFFSETS)[1]
        self.assertEqual(moved.first, great + 900)
        self.assertEqual(as_shown(NET, "q", moved + 10 ** 29, OFFSETS)[1].first, great + 1800 + 1440 * 10 ** 29)

    def test_bad_offsets(self):
        wrong = odd_values() + integers() + ["", "a", {}, [("a", 0)], [], list(OFFSETS.items())]
        wrong += [{**OFFSETS, "e": 0}, {**OFFSETS, "p": 0}, {**OFFSETS, 1: 0}, {zone: 0 for zone in "abc"}, {"a": 0}]
        wrong += [{Same(): 0, "b": 0, "c": 0, "d": 0}, {"A": 0, "b": 0, "c": 0, "d": 0}, {**OFFSETS, None: 0}]
        for value in odd_values() + [841, -841, 10 ** 30, "0", ""]:
            wrong.append({**OFFSETS, "c": value})
        for value in wrong:
            with self.assertRaises(BadOffsets) as caught:
                as_shown(NET, "p", DAY, value)
            self.assertIs(caught.exception.offsets, value)

    def test_errors_in_their_order(self):
        east = Entry("zoned 0 to 0 east")
        for value in no_names() + ["a", "zzz"]:
            for entry in (DAY, east):
                for offsets in (OFFSETS, None):
                    with self.assertRaises(NoProgram) as caught:
                        as_shown(NET, value, entry, offsets)
                    self.assertIs(caught.exception.name, value)
        for offsets in (OFFSETS, None, {}):
            with self.assertRaises(NoZone) as caught:
                as_shown(NET, "p", east, offsets)
            self.assertEqual(caught.exception.name, "east")


class AddedTest(unittest.TestCase):

    def test_examples_by_hand(self):
        self.assertEqual(added(NET, "p", "q", "fixed", None), ("float", None, ("b", "a")))
        self.assertEqual(added(NET, "q", "r", "float", None), ("fixed", None, None))

    def test_by_rules(self):
        net = Net("zone a 0\nzone b 0\nzone c 0\nprogram p at a\nprogram q at b")
        for rule, wanted in [
            ("keep", ("zoned", "c", ("b", "a"))), ("own day", ("day", None, ("c", "a"))), ("home day", ("day", None, ("b", "a"))),
            ("own float", ("float", None, ("c", "a"))), ("home float", ("float", None, ("b", "a"))),
            ("as if", ("zoned", "b", ("c", "a"))), ("moved", ("zoned", "b", ("b", "a"))), ("fixed", ("fixed", None, ("b", "a"))),
        ]:
            ruled = net.with_rule("q", "zoned", rule)
            self.assertEqual(added(ruled, "p", "q", "zoned", "c"), wanted)
            # Its own zone is the home of p: no clock can differ.
            own = rule in ("own day", "own float", "as if")
            self.assertEqual(added(ruled, "p", "q", "zoned", "a")[2], None if own else ("b", "a"))
            self.assertEqual(added(ruled, "p", "q", "zoned", "b")[2], ("b", "a"))
            self.assertEqual(added(ruled, "q", "q", "zoned", "c")[2], ("c", "b") if own else None)
        for rule, kind in [("keep", "fixed"), ("day", "day"), ("float", "float"), ("zoned", "zoned")]:
            ruled = net.with_rule("q", "fixed", rule)
            self.assertEqual(added(ruled, "p", "q", "fixed", None), (kind, "b" if kind == "zoned" else None, ("b", "a")))
            self.assertEqual(added(ruled, "q", "q", "fixed", None)[2], None)
        for rule, kind in [("keep", "float"), ("day", "day"), ("zoned", "zoned"), ("fixed", "fixed")]:
            ruled = net.with_rule("q", "float", rule)
            self.assertEqual(added(ruled, "p", "q", "float", None), (kind, "b" if kind == "zoned" else None, None))
        for rule, kind in [("keep", "day"), ("float 1 2", "float"), ("zoned 1 2", "zoned"), ("fixed 1 2", "fixed")]:
            ruled = net.with_rule("q", "day", rule)
            self.assertEqual(added(ruled, "p", "q", "day", None), (kind, "b" if kind == "zoned" else None, None))

    def test_clocks_get_what_is_told(self):
        rng = random.Random(26)
        for _ in range(400):
            net = random_net(rng, programs=3, step=7, routes=2)
            entry = random_entry(rng, net, step=119)
            p, q = rng.choice(net.programs), rng.choice(net.programs)
            kind, zone, pair = added(net, p, q, entry.kind, entry.zone)
            copy = plain_copy(net, q, held(entry))
            self.assertEqual(copy[:2], (kind, zone))
            if entry.kind == "day":
                self.assertIsNone(pair)
                continue
            more = 0 if pair is None else net.offset_of(pair[0]) - net.offset_of(pair[1])
            self.assertTrue(pair is None or pair[0] != pair[1])
            wanted = [minute + more for minute in plain_clock(net, p, held(entry))]
            if kind == "day":
                self.assertEqual(list(copy[2:]), [minute // 1440 for minute in wanted])
            else:
                self.assertEqual(list(plain_clock(net, q, copy)), wanted)

    def test_no_route_is_needed(self):
        self.assertEqual(added(NET, "t", "p", "fixed", None), ("fixed", None, ("a", "d")))

    def test_errors_in_their_order(self):
        for value in no_names() + ["a", "zzz"]:
            for q in ("q", "zzz"):
                for zone in ("a", "zzz"):
                    with self.assertRaises(NoProgram) as caught:
                        added(NET, value, q, "zoned", zone)
                    self.assertIs(caught.exception.name, value)
            for zone in ("a", "zzz", None):
                with self.assertRaises(NoProgram) as caught:
                    added(NET, "p", value, "zoned", zone)
                self.assertIs(caught.exception.name, value)
        for value in no_names() + ["p", "zzz"]:
            with self.assertRaises(NoZone) as caught:
                added(NET, "p", "q", "zoned", value)
            self.assertIs(caught.exception.name, value)

    def test_all_rules_are_told(self):
        self.assertEqual(len(ZONED_RULES), 8)
        self.assertEqual(len(KINDS), 4)


if __name__ == "__main__":
    unittest.main()

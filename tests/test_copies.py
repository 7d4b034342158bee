"""Points 8 and 9: what is shown, copies, walks and moved days."""

import random
import unittest

from tests.plain import (
    KINDS, ZONED_RULES, held, plain_along, plain_clock, plain_copy, plain_shown, random_entry, random_net, text_of,
)
from tests.values import no_names
from whoseday.copies import along, carried, clock, copied, moved_days, shown
from whoseday.entries import Entry
from whoseday.errors import NoProgram, NoRoute, NoZone
from whoseday.nets import Net

EXAMPLE = Net(
    "zone home 0\nzone west -300\nprogram desk at home\n  day -> fixed 0 1439\nprogram phone at west\n"
    "  fixed -> day\n  zoned -> home float\nroute desk phone\nroute phone desk"
)
# The program p is at b, an hour and a half ahead of UTC; the zone a lies 200 minutes behind.
BARE = Net("zone a -200\nzone b 90\nprogram p at b\nroute p p")
GREAT = 10 ** 30 - 1


def with_rule(kind, rule):
    return BARE.with_rule("p", kind, rule)


def copied_text(kind, rule, text):
    return copied(with_rule(kind, rule), "p", Entry(text)).text


class RulesTest(unittest.TestCase):

    def test_days(self):
        for text, rule, wanted in [
            ("day 10 to 12", "keep", "day 10 to 12"),
            ("day 10 to 12", "float 0 1439", "float 14400 to 18719"),
            ("day -1 to 0", "float 5 7", "float -1435 to 7"),
            ("day 2 to 2", "zoned 60 61", "zoned 2940 to 2941 b"),
            ("day 2 to 2", "fixed 0 0", "fixed 2790 to 2790"),
            ("day -1 to 0", "fixed 89 1439", "fixed -1441 to 1349"),
        ]:
            with self.subTest(text=text, rule=rule):
                self.assertEqual(copied_text("day", rule, text), wanted)

    def test_floats(self):
        for text, rule, wanted in [
            ("float -1 to 1440", "keep", "float -1 to 1440"),
            ("float -1 to 1440", "day", "day -1 to 1"),
            ("float -1441 to -1440", "day", "day -2 to -1"),
            ("float 0 to 1439", "day", "day 0 to 0"),
            ("float -1 to 1440", "zoned", "zoned -1 to 1440 b"),
            ("float -1 to 1440", "fixed", "fixed -91 to 1350"),
        ]:
            with self.subTest(text=text, rule=rule):
                self.assertEqual(copied_text("float", rule, text), wanted)

    def test_zoned(self):
        for rule, wanted in [
            ("keep", "zoned -291 to 1149 a"), ("own day", "day -1 to 0"), ("home day", "day -1 to 0"),
            ("own float", "float -291 to 1149"), ("home float", "float -1 to 1439"),
            ("as if", "zoned -291 to 1149 b"), ("moved", "zoned -1 to 1439 b"), ("fixed", "fixed -91 to 1349"),
        ]:
            with self.subTest(rule):
                self.assertEqual(copied_text("zoned", rule, "zoned -291 to 1149 a"), wanted)
        self.assertEqual(copied_text("zoned", "own day", "zoned 1439 to 1440 a"), "day 0 to 1")
        self.assertEqual(copied_text("zoned", "home day", "zoned 1149 to 1150 a"), "day 0 to 1")
        self.assertEqual(copied_text("zoned", "home day", "zoned -291 to -290 a"), "day -1 to 0")

    def test_fixed(self):
        for rule, wanted in [
            ("keep", "fixed -91 to 1350"), ("day", "day -1 to 1"), ("float", "float -1 to 1440"),
            ("zoned", "zoned -1 to 1440 b"),
        ]:
            with self.subTest(rule):
                self.assertEqual(copied_text("fixed", rule, "fixed -91 to 1350"), wanted)

    def test_numbers_of_any_length(self):
        day = Entry(f"day {-GREAT} to {GREAT}")
        for rule, wanted in [
            ("float 1 2", (-1440 * GREAT + 1, 1440 * GREAT + 2)), ("fixed 1 2", (-1440 * GREAT - 89, 1440 * GREAT - 88)),
            ("zoned 1 2", (-1440 * GREAT + 1, 1440 * GREAT + 2)),
        ]:
            entry = copied(with_rule("day", rule), "p", day)
            self.assertEqual((entry.first, entry.last), wanted)
            self.assertEqual(entry.kind, rule.split()[0])
            self.assertGreater(len(str(entry.last)), 30)
            self.assertEqual(shown(BARE, "p", entry), (-GREAT, GREAT))
            self.assertEqual(copied(BARE, "p", entry), entry)
        self.assertEqual(clock(BARE, "p", Entry(f"zoned {-GREAT} to {GREAT} a")), (-GREAT + 290, GREAT + 290))

    def test_each_rule_against_the_words_of_the_document(self):
        rng = random.Random(6)
        rules = [("zoned", rule) for rule in ZONED_RULES]
        rules += [("float", one) for one in ("keep", "day", "zoned", "fixed")]
        rules += [("fixed", one) for one in ("keep", "day", "zoned", "float")]
        rules += [("day", f"{one} {rng.randint(0, 700)} {rng.randint(701, 1439)}") for one in KINDS[1:]]
        for kind, rule in rules:
            net = with_rule(kind, rule)
            for _ in range(40):
                first = rng.choice([rng.randint(-4000, 4000), 1440 * rng.randint(-2, 2) + rng.randint(-1, 1)])
                zone = {"zoned": rng.choice("ab")}.get(kind)
                text = text_of(kind, zone, first, first + rng.choice([0, 1, 1439, 5000]))
                entry = Entry(text)
                with self.subTest(rule=rule, text=text):
                    self.assertEqual(copied(net, "p", entry).text, text_of(*plain_copy(net, "p", held(entry))))

    def test_an_entry_of_a_zone_that_is_the_home(self):
        for rule, wanted in [("home float", "float 5 to 6"), ("moved", "zoned 5 to 6 b"), ("home day", "day 0 to 0")]:
            self.assertEqual(copied_text("zoned", rule, "zoned 5 to 6 b"), wanted)


class ShownTest(unittest.TestCase):

    def test_clocks(self):
        self.assertIsNone(clock(BARE, "p", Entry("day 1 to 2")))
        self.assertEqual(clock(BARE, "p", Entry("float -1 to 2")), (-1, 2))
        self.assertEqual(clock(BARE, "p", Entry("zoned -1 to 2 a")), (289, 292))
        self.assertEqual(clock(BARE, "p", Entry("zoned -1 to 2 b")), (-1, 2))
        self.assertEqual(clock(BARE, "p", Entry("fixed -1 to 2")), (89, 92))

    def test_days(self):
        self.assertEqual(shown(BARE, "p", Entry("day -1 to 2")), (-1, 2))
        self.assertEqual(shown(BARE, "p", Entry("float -1 to 1439")), (-1, 0))
        self.assertEqual(shown(BARE, "p", Entry("float 0 to 1440")), (0, 1))
        self.assertEqual(shown(BARE, "p", Entry("zoned -291 to 1149 a")), (-1, 0))
        self.assertEqual(shown(BARE, "p", Entry("zoned -290 to 1150 a")), (0, 1))
        self.assertEqual(shown(BARE, "p", Entry("fixed -91 to 1349")), (-1, 0))
        self.assertEqual(shown(BARE, "p", Entry("fixed -90 to 1350")), (0, 1))

    def test_against_the_words_of_the_document(self):
        rng = random.Random(8)
        for _ in range(300):
            net = random_net(rng, step=7)
            entry = random_entry(rng, net, step=119)
            p = rng.choice(net.programs)
            self.assertEqual(clock(net, p, entry), plain_clock(net, p, held(entry)))
            self.assertEqual(shown(net, p, entry), plain_shown(net, p, held(entry)))
            self.assertEqual(held(copied(net, p, entry)), plain_copy(net, p, held(entry)))

    def test_errors(self):
        east = Entry("zoned 0 to 0 east")
        for ask in (clock, shown, copied):
            for value in no_names() + ["q", "b"]:
                for entry in (Entry("day 1 to 2"), east):
                    with self.assertRaises(NoProgram) as caught:
                        ask(BARE, value, entry)
                    self.assertIs(caught.exception.name, value)
            with self.assertRaises(NoZone) as caught:
                ask(BARE, "p", east)
            self.assertEqual(caught.exception.name, "east")


class WalksTest(unittest.TestCase):

    def test_one_name_is_no_copy(self):
        for text in ["day 1 to 2", "float -1 to 0", "zoned 5 to 9 a", "fixed 1 to 1"]:
            entry = Entry(text)
            self.assertEqual(along(with_rule("float", "day"), ["p"], entry), (entry,))
            self.assertEqual(carried(with_rule("day", "float 1 2"), ("p",), entry), entry)
            self.assertEqual(moved_days(BARE, ("p",), entry), (0, 0))

    def test_the_same_program_again(self):
        net = BARE.with_rule("p", "float", "zoned").with_rule("p", "zoned", "own day")
        net = net.with_rule("p", "day", "float 0 1439")
        texts = [one.text for one in along(net, ["p"] * 5, Entry("float 1439 to 1440"))]
        self.assertEqual(
            texts, ["float 1439 to 1440", "zoned 1439 to 1440 b", "day 0 to 1", "float 0 to 2879", "zoned 0 to 2879 b"]
        )
        self.assertIs(type(along(net, ["p"] * 5, Entry("float 1 to 2"))), tuple)

    def test_against_the_words_of_the_document(self):
        rng = random.Random(9)
        for _ in range(300):
            net = random_net(rng, step=rng.choice([7, 60, 360]))
            entry = random_entry(rng, net, step=rng.choice([119, 360]))
            walk = [rng.choice(net.programs)]
            while net.targets_of(walk[-1]) and len(walk) < 12 and rng.random() < 0.95:
                walk.append(rng.choice(net.targets_of(walk[-1])))
            wanted = plain_along(net, walk, held(entry))
            found = along(net, tuple(walk), entry)
            self.assertEqual([held(one) for one in found], wanted)
            self.assertTrue(all(isinstance(one, Entry) for one in found))
            self.assertEqual(held(carried(net, walk, entry)), wanted[-1])
            ahead, behind = plain_shown(net, walk[0], wanted[0]), plain_shown(net, walk[-1], wanted[-1])
            self.assertEqual(moved_days(net, walk, entry), (behind[0] - ahead[0], behind[1] - ahead[1]))

    def test_facts(self):
        rng = random.Random(10)
        for _ in range(100):
            net = random_net(rng, routes=12)
            entry = random_entry(rng, net)
            p = rng.choice(net.programs)
            for many in (1, -7, 10 ** 29):
                self.assertEqual(copied(net, p, entry + many), copied(net, p, entry) + many)
            other = Entry(text_of(entry.kind, entry.zone, entry.first, entry.last + 3))
            self.assertEqual(copied(net, p, other).first, copied(net, p, entry).first)
            self.assertGreaterEqual(copied(net, p, other).last, copied(net, p, entry).last)

    def test_offsets_and_fixed_values_together(self):
        rng = random.Random(11)
        for _ in range(50):
            net = random_net(rng, step=100, routes=16)
            later = net
            for zone in net.zones:
                later = later.with_offset(zone, net.offset_of(zone) + 37)
            entry = random_entry(rng, net)
            less = {"fixed": 37}.get(entry.kind, 0)
            moved = Entry(text_of(entry.kind, entry.zone, entry.first - less, entry.last - less))
            walk = ["p"]
            while net.targets_of(walk[-1]) and len(walk) < 8:
                walk.append(rng.choice(net.targets_of(walk[-1])))
            self.assertEqual(moved_days(net, walk, entry), moved_days(later, walk, moved))

    def test_first_member_that_is_no_program(self):
        for ask in (along, carried, moved_days):
            for value in no_names() + ["zzz", "home"]:
                for walk in (["desk", value], [value, "desk"], ["desk", "desk", value, 5], (value,), ["phone", value, "no"]):
                    for entry in (Entry("day 1 to 2"), Entry("zoned 0 to 0 east")):
                        with self.assertRaises(NoProgram) as caught:
                            ask(EXAMPLE, walk, entry)
                        self.assertIs(caught.exception.name, value)

    def test_no_route(self):
        east = Entry("zoned 0 to 0 east")
        for ask in (along, carried, moved_days):
            for entry in (Entry("day 1 to 2"), east):
                for walk, index in [
                    ((), 0), ([], 0), (("desk", "desk"), 1), (["desk", "phone", "phone"], 2),
                    (["desk", "phone", "desk", "phone", "phone", "phone"], 4), (("phone", "phone", "desk"), 1),
                ]:
                    with self.assertRaises(NoRoute) as caught:
                        ask(EXAMPLE, walk, entry)
                    self.assertEqual(caught.exception.index, index)
            for walk in (["desk"], ("desk", "phone")):
                with self.assertRaises(NoZone) as caught:
                    ask(EXAMPLE, walk, east)
                self.assertEqual(caught.exception.name, "east")

    def test_routes_lead_one_way(self):
        net = Net("zone a 0\nprogram p at a\nprogram q at a\nroute p q")
        self.assertEqual(moved_days(net, ("p", "q"), Entry("day 1 to 2")), (0, 0))
        with self.assertRaises(NoRoute):
            moved_days(net, ("q", "p"), Entry("day 1 to 2"))

    def test_a_walk_is_left_as_it_was(self):
        walk = ["phone", "desk"]
        along(EXAMPLE, walk, Entry("day 1 to 2"))
        self.assertEqual(walk, ["phone", "desk"])


class ExamplesTest(unittest.TestCase):

    def test_copies_by_hand(self):
        fixed = copied(EXAMPLE, "desk", Entry("day 10 to 10"))
        self.assertEqual(fixed, Entry("fixed 14400 to 15839"))
        self.assertEqual(clock(EXAMPLE, "phone", fixed), (14100, 15539))
        self.assertEqual(shown(EXAMPLE, "phone", fixed), (9, 10))
        self.assertEqual(shown(EXAMPLE, "desk", fixed), (10, 10))
        walk = ("phone", "desk", "phone")
        self.assertEqual(carried(EXAMPLE, walk, Entry("day 10 to 10")), Entry("day 9 to 10"))
        self.assertEqual(moved_days(EXAMPLE, walk, Entry("day 10 to 10")), (-1, 0))
        zoned = Entry("zoned 100 to 700 home")
        self.assertEqual(copied(EXAMPLE, "phone", zoned), Entry("float -200 to 400"))
        self.assertEqual(copied(EXAMPLE, "desk", Entry("float -200 to 400")), Entry("float -200 to 400"))
        self.assertEqual(shown(EXAMPLE, "phone", zoned), (-1, 0))

    def test_errors_by_hand(self):
        entry = Entry("day 1 to 2")
        for deed, kind, field in [
            (lambda: carried(EXAMPLE, ("desk", "desk"), entry), NoRoute, ("index", 1)),
            (lambda: carried(EXAMPLE, (), entry), NoRoute, ("index", 0)),
            (lambda: carried(EXAMPLE, ("desk", 5), entry), NoProgram, ("name", 5)),
            (lambda: shown(EXAMPLE, "desk", Entry("zoned 0 to 0 east")), NoZone, ("name", "east")),
        ]:
            with self.assertRaises(kind) as caught:
                deed()
            self.assertEqual(getattr(caught.exception, field[0]), field[1])


if __name__ == "__main__":
    unittest.main()

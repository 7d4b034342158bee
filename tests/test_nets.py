"""Points 5 and 6: nets, rules and their texts."""

import re
import unittest

from tests.values import Same, Sulky, bent, integers, no_names, odd_values
from whoseday.entries import Entry
from whoseday.errors import BadKind, BadText, NoProgram, NoZone
from whoseday.nets import Net

KINDS = ("day", "float", "zoned", "fixed")
RULES = {
    "day": ["keep", "float 0 1439", "zoned 600 659", "fixed 720 720"],
    "float": ["keep", "day", "zoned", "fixed"],
    "zoned": ["keep", "own day", "home day", "own float", "home float", "as if", "moved", "fixed"],
    "fixed": ["keep", "day", "float", "zoned"],
}
# The net of the examples by hand behind point 9.
EXAMPLE = (
    "zone home 0\nzone west -300\nprogram desk at home\n  day -> fixed 0 1439\n"
    "program phone at west\n  fixed -> day\n  zoned -> home float\n"
    "route desk phone\nroute phone desk"
)
FULL = (
    "zone a 0\nzone b -60\nprogram a at b\n  zoned -> as if\n  day -> zoned 5 70\n"
    "program p at a\nprogram q at b\n  fixed -> keep\n  float -> day\n"
    "route a a\nroute q p\nroute p q\nroute a q"
)


def zones(many):
    return "\n".join(f"zone {'abcdefgh'[at]} {at}" for at in range(many))


def programs(many):
    return "\n".join(f"program {'abcdefghijklmnop'[at]} at a" for at in range(many))


def routes(many):
    pairs = [(one, other) for one in "abcdefgh" for other in "abcdefgh"]
    return "\n".join(f"route {one} {other}" for one, other in pairs[:many])


def first_wrong(text):
    """The first wrong line of a text, by the words of point 6; 0 if there is none.

    Written anew here, to be held against the program; without its bounds on
    how many zones, programs and routes there are.
    """
    name, number = r"([a-z]{1,12})", r"(0|-?[1-9][0-9]{0,29})"
    hours = r"(?:float|zoned|fixed) (0|[1-9][0-9]{0,29}) (0|[1-9][0-9]{0,29})"
    seen_zones, seen_programs, seen_rules, seen_routes = [], [], [], []
    for at, line in enumerate(text.split("\n") if text else [], start=1):
        if found := re.fullmatch(f"zone {name} {number}", line):
            zone, offset = found.groups()
            good = zone not in seen_zones and -841 < int(offset) < 841 and not seen_programs
            seen_zones.append(zone)
        elif found := re.fullmatch(f"program {name} at {name}", line):
            program, home = found.groups()
            good = program not in seen_programs and home in seen_zones and not seen_routes
            seen_programs.append(program)
        elif found := re.fullmatch(f"route {name} {name}", line):
            good = found.groups() not in seen_routes and set(found.groups()) <= set(seen_programs)
            seen_routes.append(found.groups())
        elif found := re.fullmatch("  (day|float|zoned|fixed) -> (.*)", line):
            kind, rule = found.groups()
            key = (seen_programs[-1:], kind)
            minutes = re.fullmatch(hours, rule) if kind == "day" else None
            if minutes:
                good = int(minutes[1]) <= int(minutes[2]) < 1440
            else:
                good = rule == "keep" or kind != "day" and rule in RULES[kind]
            good = good and seen_programs and not seen_routes and key not in seen_rules
            seen_rules.append(key)
        else:
            good = False
        if not good:
            return at
    return 0


class NetTestCase(unittest.TestCase):

    def assert_bad(self, text, line):
        with self.assertRaises(BadText) as caught:
            Net(text)
        self.assertEqual(caught.exception.line, line)
        self.assertIs(type(caught.exception.line), int)


class TextTest(NetTestCase):

    def test_attributes(self):
        net = Net(EXAMPLE)
        self.assertEqual(net.zones, ("home", "west"))
        self.assertEqual(net.programs, ("desk", "phone"))
        self.assertEqual(net.routes, (("desk", "phone"), ("phone", "desk")))
        for value in [net.zones, net.programs, net.routes, *net.routes]:
            self.assertIs(type(value), tuple)
        for name in ["text", "zones", "programs", "routes"]:
            self.assertIn(name, vars(net))

    def test_order_of_zones_programs_and_routes(self):
        net = Net("zone z 0\nzone a 0\nprogram y at a\nprogram b at z\nroute y b\nroute b b\nroute b y")
        self.assertEqual(net.zones, ("z", "a"))
        self.assertEqual(net.programs, ("y", "b"))
        self.assertEqual(net.routes, (("y", "b"), ("b", "b"), ("b", "y")))

    def test_text_has_the_rules_in_their_order_and_no_keep(self):
        self.assertEqual(Net(EXAMPLE).text, EXAMPLE.replace(
            "  fixed -> day\n  zoned -> home float", "  zoned -> home float\n  fixed -> day"))
        self.assertEqual(Net(FULL).text, (
            "zone a 0\nzone b -60\nprogram a at b\n  day -> zoned 5 70\n  zoned -> as if\n"
            "program p at a\nprogram q at b\n  float -> day\n"
            "route a a\nroute q p\nroute p q\nroute a q"))
        for order in [(0, 1, 2, 3), (3, 2, 1, 0), (1, 3, 0, 2)]:
            rows = ["  day -> float 0 0", "  float -> day", "  zoned -> moved", "  fixed -> day"]
            head = "zone a 0\nprogram p at a\n"
            self.assertEqual(Net(head + "\n".join(rows[at] for at in order)).text, head + "\n".join(rows))

    def test_text_of_a_text_is_the_same(self):
        for text in [EXAMPLE, FULL, "", "zone a 0", "zone a 0\nprogram a at a\nroute a a"]:
            self.assertEqual(Net(Net(text).text).text, Net(text).text)

    def test_net_of_nothing(self):
        net = Net("")
        self.assertEqual((net.text, net.zones, net.programs, net.routes), ("", (), (), ()))

    def test_line_ends(self):
        self.assert_bad("\n", 1)
        self.assert_bad("zone a 0\n", 2)
        self.assert_bad("\nzone a 0", 1)
        self.assert_bad("zone a 0\n\nzone b 0", 2)
        self.assert_bad(EXAMPLE + "\n", 10)
        self.assert_bad("zone a 0\r\nzone b 0", 1)
        for end in ["\r", "\x0b", "\x0c", "\x1c", "\x85", "\u2028"]:
            self.assert_bad(f"zone a 0{end}zone b 0", 1)

    def test_examples_by_hand(self):
        self.assert_bad("zone a 0\nroute p p", 2)
        self.assert_bad("zone a 841", 1)
        self.assert_bad("zone a 0\nprogram p at a\n  day -> float 9 8", 3)

    def test_offsets(self):
        for offset in [-840, -839, -1, 0, 1, 839, 840]:
            self.assertEqual(Net(f"zone a {offset}").offset_of("a"), offset)
        for offset in ["-841", "841", "-0", "00", "01", "+1", "", "1.0", "9" * 30, "9" * 31,
                       "-" + "9" * 31, "\u0661", "x", " 1", "1 ", "1_0"]:
            with self.subTest(offset):
                self.assert_bad(f"zone a 0\nzone b {offset}", 2)

    def test_names(self):
        longest = "abcdefghijkl"
        net = Net(f"zone {longest} 0\nprogram {longest} at {longest}\nroute {longest} {longest}")
        self.assertEqual((net.zones, net.programs), ((longest,), (longest,)))
        for name in ["abcdefghijklm", "", "A", "a1", "a_", "\u00e4", "5", "a-"]:
            with self.subTest(name):
                self.assert_bad(f"zone {name} 0", 1)
                self.assert_bad(f"zone a 0\nprogram {name} at a", 2)

    def test_words_of_the_text_may_be_names(self):
        net = Net("zone zone 0\nzone at 1\nprogram program at at\nprogram route at zone\nroute program route")
        self.assertEqual(net.home_of("program"), "at")
        self.assertEqual(net.targets_of("program"), ("route",))

    def test_zone_and_program_of_one_name(self):
        net = Net("zone a 7\nzone b 8\nprogram a at b\nprogram b at a")
        self.assertEqual((net.offset_of("a"), net.home_of("a"), net.home_of("b")), (7, "b", "a"))

    def test_wrong_forms_of_lines(self):
        head = "zone a 0\nprogram p at a\n"
        for line in ["", " ", "  ", "x", "zone", "program", "route", "zone b", "zone b 0 0", " zone b 0",
                     "zone  b 0", "zone b  0", "zone b 0 ", "Zone b 0", "zone\tb 0"]:
            with self.subTest(line):
                self.assert_bad(f"zone a 0\n{line}", 2)
        for line in ["program q", "program q at", "program q at a b", "program q in a", "program q a",
                     "program q  at a", " program q at a", "program q at a ", "program q at "]:
            with self.subTest(line):
                self.assert_bad(head + line, 3)
        for line in ["route p", "route p p p", "route  p p", "route p p ", " route p p", "route p -> p",
                     "route", "route p ", "route p q", "route q p", "route p a"]:
            with self.subTest(line):
                self.assert_bad(head + line, 3)
        for line in [" day -> keep", "   day -> keep", "day -> keep", "  day->keep", "  day -> ",
                     "  day  -> keep", "  day ->  keep", "  day -> keep ", "  day - keep", "  day",
                     "  day keep", "  -> keep", "  week -> keep", "  Day -> keep", "\tday -> keep",
                     "  day -> keep -> keep", "   -> keep", "  day ->"]:
            with self.subTest(line):
                self.assert_bad(head + line, 3)

    def test_lines_in_the_wrong_place(self):
        self.assert_bad("zone a 0\nprogram p at a\nzone b 0", 3)
        self.assert_bad("zone a 0\nprogram p at a\nroute p p\nzone b 0", 4)
        self.assert_bad("zone a 0\nprogram p at a\nroute p p\nprogram q at a", 4)
        self.assert_bad("zone a 0\nprogram p at a\nroute p p\n  day -> keep", 4)
        self.assert_bad("  day -> keep", 1)
        self.assert_bad("zone a 0\n  day -> keep\nprogram p at a", 2)
        self.assert_bad("program p at a\nzone a 0", 1)
        self.assert_bad("zone a 0\nroute p p\nprogram p at a", 2)

    def test_names_and_routes_that_stand_already(self):
        self.assert_bad("zone a 0\nzone b 1\nzone a 2", 3)
        self.assert_bad("zone a 0\nprogram p at a\nprogram q at a\nprogram p at a", 4)
        self.assert_bad("zone a 0\nprogram p at a\nroute p p\nroute p p", 4)
        self.assert_bad(EXAMPLE + "\nroute desk phone", 10)

    def test_home_that_is_no_zone(self):
        self.assert_bad("zone a 0\nprogram p at b", 2)
        self.assert_bad("program p at p", 1)
        self.assert_bad("zone a 0\nprogram p at a\nprogram q at p", 3)

    def test_second_rule_for_a_kind(self):
        head = "zone a 0\nprogram p at a\n"
        self.assert_bad(head + "  float -> day\n  float -> day", 4)
        self.assert_bad(head + "  float -> keep\n  float -> day", 4)
        self.assert_bad(head + "  float -> day\n  zoned -> keep\n  float -> keep", 5)
        net = Net(head + "  float -> day\nprogram q at a\n  float -> zoned")
        self.assertEqual((net.rule_of("p", "float"), net.rule_of("q", "float")), ("day", "zoned"))

    def test_written_keep_counts_as_none(self):
        rows = "\n".join(f"  {kind} -> keep" for kind in KINDS)
        self.assertEqual(Net(f"zone a 0\nprogram p at a\n{rows}").text, "zone a 0\nprogram p at a")

    def test_seventh_zone(self):
        self.assertEqual(len(Net(zones(6)).zones), 6)
        self.assert_bad(zones(7), 7)
        self.assert_bad(zones(8), 7)

    def test_thirteenth_program(self):
        self.assertEqual(len(Net("zone a 0\n" + programs(12)).programs), 12)
        self.assert_bad("zone a 0\n" + programs(13), 14)
        self.assert_bad(zones(6) + "\n" + programs(13), 19)

    def test_forty_first_route(self):
        head = zones(6) + "\n" + programs(12) + "\n"
        self.assertEqual(len(Net(head + routes(40)).routes), 40)
        self.assert_bad(head + routes(41), 59)
        self.assert_bad(head + routes(50), 59)

    def test_first_of_several_faults(self):
        self.assert_bad("zone a 0\nzone b 900\nzone a 0", 2)
        self.assert_bad("zone a 0\nzone a 0\nzone b 900", 2)
        self.assert_bad("zone a 0\nprogram p at a\n  day -> day\n\n", 3)

    def test_texts_bent_by_one_sign(self):
        for good in [EXAMPLE, FULL]:
            for text in bent(good, "0159- abpq\n>A\t"):
                line = first_wrong(text)
                if line:
                    self.assert_bad(text, line)
                else:
                    Net(text)

    def test_texts_with_a_line_put_elsewhere(self):
        for good in [EXAMPLE, FULL]:
            lines = good.split("\n")
            for at in range(len(lines)):
                rest = lines[:at] + lines[at + 1:]
                for to in range(len(lines)):
                    text = "\n".join(rest[:to] + [lines[at]] + rest[to:])
                    line = first_wrong(text)
                    if line:
                        self.assert_bad(text, line)
                    else:
                        Net(text)


class RuleTest(NetTestCase):

    def rule_line(self, kind, rule):
        return f"zone a 0\nprogram p at a\n  {kind} -> {rule}"

    def test_rules_of_each_kind(self):
        for kind in KINDS:
            for rule in RULES[kind]:
                with self.subTest(kind=kind, rule=rule):
                    self.assertEqual(Net(self.rule_line(kind, rule)).rule_of("p", kind), rule)

    def test_rules_of_other_kinds(self):
        for kind in KINDS:
            for other in KINDS:
                for rule in RULES[other]:
                    if rule not in RULES[kind]:
                        with self.subTest(kind=kind, rule=rule):
                            self.assert_bad(self.rule_line(kind, rule), 3)

    def test_hours_of_days(self):
        for made in ["float", "zoned", "fixed"]:
            for early, late in [(0, 0), (0, 1), (0, 1439), (1439, 1439), (720, 720), (1438, 1439)]:
                rule = f"{made} {early} {late}"
                self.assertEqual(Net(self.rule_line("day", rule)).rule_of("p", "day"), rule)
            for hours in ["0 1440", "1440 1440", "-1 0", "-1 -1", "1 0", "1439 0", "1439 1438", "0",
                          "", "0 1 2", "00 1", "0 01", "-0 1", "0  1", "0 1 ", "a b", "0 to 1",
                          "0 " + "9" * 31]:
                with self.subTest(made=made, hours=hours):
                    self.assert_bad(self.rule_line("day", f"{made} {hours}"), 3)
        self.assert_bad(self.rule_line("day", "day 0 1"), 3)
        self.assert_bad(self.rule_line("day", "keep 0 1"), 3)

    def test_rules_with_two_words(self):
        for rule in ["own", "home", "as", "if", "own  day", "owned day", "day", "float", "zoned", "home fixed"]:
            with self.subTest(rule):
                self.assert_bad(self.rule_line("zoned", rule), 3)


class AskedTest(NetTestCase):

    def assert_no_program(self, ask, value):
        with self.assertRaises(NoProgram) as caught:
            ask(value)
        self.assertIs(caught.exception.name, value)

    def test_offset_of(self):
        net = Net("zone a -840\nzone b 840\nprogram p at b")
        self.assertEqual((net.offset_of("a"), net.offset_of("b")), (-840, 840))
        for value in [*no_names(), "p", "c", "a\n", Entry("day 1 to 1"), net]:
            with self.assertRaises(NoZone) as caught:
                net.offset_of(value)
            self.assertIs(caught.exception.name, value)

    def test_home_and_targets(self):
        net = Net(FULL)
        self.assertEqual([net.home_of(p) for p in net.programs], ["b", "a", "b"])
        self.assertEqual([net.targets_of(p) for p in net.programs], [("a", "q"), ("q",), ("p",)])
        self.assertEqual(Net(EXAMPLE).targets_of("desk"), ("phone",))
        lone = Net("zone a 0\nprogram p at a")
        self.assertEqual(lone.targets_of("p"), ())
        self.assertIs(type(lone.targets_of("p")), tuple)
        several = Net("zone a 0\nprogram p at a\nprogram q at a\nprogram r at a\nroute p r\nroute q q\nroute p p\nroute p q")
        self.assertEqual(several.targets_of("p"), ("r", "p", "q"))

    def test_rule_of(self):
        net = Net(EXAMPLE)
        self.assertEqual(net.rule_of("phone", "fixed"), "day")
        self.assertEqual(net.rule_of("phone", "float"), "keep")
        self.assertEqual(net.rule_of("phone", "zoned"), "home float")
        self.assertEqual(net.rule_of("phone", "day"), "keep")
        self.assertEqual(net.rule_of("desk", "day"), "fixed 0 1439")

    def test_no_program(self):
        net = Net(FULL)
        for value in [*no_names(), "b", "c", "p\n", Entry("day 1 to 1"), net]:
            self.assert_no_program(net.home_of, value)
            self.assert_no_program(net.targets_of, value)
            self.assert_no_program(lambda p: net.rule_of(p, "day"), value)
            self.assert_no_program(lambda p: net.rule_of(p, "week"), value)
            self.assert_no_program(Net("").home_of, value)

    def test_bad_kind(self):
        net = Net(FULL)
        for value in [*odd_values(), *integers(), "", "week", "Day", "day ", "keep", "d", KINDS, net]:
            with self.assertRaises(BadKind) as caught:
                net.rule_of("p", value)
            self.assertIs(caught.exception.kind, value)


class EqualTest(NetTestCase):

    def test_equal_if_the_attributes_text_are(self):
        self.assertEqual(Net(EXAMPLE), Net(Net(EXAMPLE).text))
        self.assertEqual(Net("zone a 0\nprogram p at a\n  day -> keep"), Net("zone a 0\nprogram p at a"))
        self.assertEqual(Net(""), Net(""))
        self.assertIs(Net(FULL) != Net(FULL), False)
        self.assertNotEqual(Net(EXAMPLE), Net(FULL))
        self.assertNotEqual(Net("zone a 0\nzone b 0"), Net("zone b 0\nzone a 0"))
        self.assertNotEqual(Net("zone a 0"), Net("zone a 1"))

    def test_not_equal_to_values_of_other_kinds(self):
        net = Net("zone a 0")
        for value in [*odd_values(), *integers(), "zone a 0", Entry("day 1 to 2"), Same(), Sulky()]:
            self.assertIs(net == value, False)
            self.assertIs(net != value, True)


if __name__ == "__main__":
    unittest.main()

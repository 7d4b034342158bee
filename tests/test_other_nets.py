"""Point 7: other nets made of a net."""

import unittest

from tests.test_nets import EXAMPLE, FULL, KINDS, RULES, programs, routes, zones
from tests.values import integers, no_names, odd_values
from whoseday.entries import Entry
from whoseday.errors import BadKind, BadName, BadNumber, BadRule, NoProgram, NoZone, TooMany
from whoseday.nets import Net

FIELDS = {BadKind: "kind", BadName: "name", BadNumber: "number", BadRule: "rule", NoProgram: "name",
          NoZone: "name", TooMany: "most"}
NO_OFFSETS = [*odd_values(), -841, 841, 10 ** 30, -10 ** 5000, "", "0", "-1", [0], (0,)]


class OtherNetTestCase(unittest.TestCase):

    def setUp(self):
        self.net = Net(FULL)
        self.text = self.net.text

    def tearDown(self):
        self.assertEqual(self.net.text, self.text)
        self.assertEqual(self.net, Net(FULL))
        self.assertEqual((self.net.zones, self.net.programs), (("a", "b"), ("a", "p", "q")))
        self.assertEqual(self.net.routes, (("a", "a"), ("q", "p"), ("p", "q"), ("a", "q")))
        self.assertEqual([self.net.offset_of("a"), self.net.offset_of("b")], [0, -60])
        self.assertEqual([self.net.home_of(p) for p in "apq"], ["b", "a", "b"])
        self.assertEqual(self.net.rule_of("a", "zoned"), "as if")
        self.assertEqual(self.net.targets_of("a"), ("a", "q"))

    def assert_raises(self, error, value, ask, *values):
        with self.assertRaises(error) as caught:
            ask(*values)
        self.assertIs(type(caught.exception), error)
        if error is TooMany:
            self.assertEqual(caught.exception.most, value)
        else:
            self.assertIs(getattr(caught.exception, FIELDS[error]), value)

    def assert_lines(self, net, text):
        self.assertIs(type(net), Net)
        self.assertIsNot(net, self.net)
        self.assertEqual(net.text, text)
        self.assertEqual(net, Net(text))

    def no_programs(self):
        return [*no_names(), "b", "z", Entry("day 1 to 1"), self.net]

    def no_zones(self):
        return [*no_names(), "p", "z", Entry("day 1 to 1"), self.net]


class ZonesTest(OtherNetTestCase):

    def test_with_zone(self):
        self.assert_lines(self.net.with_zone("z", 840), self.text.replace("b -60\n", "b -60\nzone z 840\n"))
        self.assert_lines(self.net.with_zone("p", -840), self.text.replace("b -60\n", "b -60\nzone p -840\n"))
        self.assertEqual(Net("").with_zone("abcdefghijkl", 0).text, "zone abcdefghijkl 0")
        self.assertEqual(Net("").with_zone(offset=0, name="a").text, "zone a 0")

    def test_with_zone_bad_name(self):
        for value in [*no_names(), "a", "b"]:
            self.assert_raises(BadName, value, self.net.with_zone, value, 0)
            self.assert_raises(BadName, value, self.net.with_zone, value, 841)
            self.assert_raises(BadName, value, Net(zones(6)).with_zone, value, None)

    def test_with_zone_bad_number(self):
        for value in NO_OFFSETS:
            self.assert_raises(BadNumber, value, self.net.with_zone, "z", value)
            self.assert_raises(BadNumber, value, Net(zones(6)).with_zone, "z", value)

    def test_with_zone_too_many(self):
        self.assertEqual(Net(zones(5)).with_zone("f", 5).text, zones(6))
        self.assert_raises(TooMany, 6, Net(zones(6)).with_zone, "z", 0)

    def test_with_offset(self):
        self.assert_lines(self.net.with_offset("a", 840), self.text.replace("zone a 0", "zone a 840"))
        self.assert_lines(self.net.with_offset("b", -840), self.text.replace("-60", "-840"))
        self.assert_lines(self.net.with_offset("b", -60), self.text)
        self.assertEqual(Net(zones(6)).with_offset("f", 0).offset_of("f"), 0)

    def test_with_offset_errors(self):
        for value in self.no_zones():
            self.assert_raises(NoZone, value, self.net.with_offset, value, 0)
            self.assert_raises(NoZone, value, self.net.with_offset, value, True)
        for value in NO_OFFSETS:
            self.assert_raises(BadNumber, value, self.net.with_offset, "a", value)


class ProgramsTest(OtherNetTestCase):

    def test_with_program(self):
        other = self.net.with_program("b", "a")
        self.assert_lines(other, self.text.replace("\nroute a a", "\nprogram b at a\nroute a a"))
        self.assertEqual([other.rule_of("b", kind) for kind in KINDS], ["keep"] * 4)
        self.assertEqual(other.targets_of("b"), ())

    def test_with_program_bad_name(self):
        for value in [*no_names(), "a", "p", "q"]:
            self.assert_raises(BadName, value, self.net.with_program, value, "a")
            self.assert_raises(BadName, value, self.net.with_program, value, "z")
            self.assert_raises(BadName, value, self.net.with_program, value, None)
        full = Net("zone a 0\n" + programs(12))
        for value in [*no_names(), "a", "l"]:
            self.assert_raises(BadName, value, full.with_program, value, "a")

    def test_with_program_no_zone(self):
        for value in self.no_zones():
            self.assert_raises(NoZone, value, self.net.with_program, "z", value)
            self.assert_raises(NoZone, value, Net("zone a 0\n" + programs(12)).with_program, "z", value)
        self.assert_raises(NoZone, "a", Net("").with_program, "z", "a")

    def test_with_program_too_many(self):
        self.assertEqual(Net("zone a 0\n" + programs(11)).with_program("l", "a").text, "zone a 0\n" + programs(12))
        self.assert_raises(TooMany, 12, Net("zone a 0\n" + programs(12)).with_program, "z", "a")

    def test_without_program(self):
        self.assert_lines(self.net.without_program("a"), (
            "zone a 0\nzone b -60\nprogram p at a\nprogram q at b\n  float -> day\nroute q p\nroute p q"))
        self.assert_lines(self.net.without_program("q"), (
            "zone a 0\nzone b -60\nprogram a at b\n  day -> zoned 5 70\n  zoned -> as if\n"
            "program p at a\nroute a a"))
        self.assertEqual(Net("zone a 0\nprogram p at a\nroute p p").without_program("p").text, "zone a 0")

    def test_program_that_comes_again_keeps_all(self):
        other = self.net.without_program("a").with_program("a", "b")
        self.assertEqual([other.rule_of("a", kind) for kind in KINDS], ["keep"] * 4)
        self.assertEqual((other.programs, other.targets_of("a")), (("p", "q", "a"), ()))

    def test_without_program_errors(self):
        for value in self.no_programs():
            self.assert_raises(NoProgram, value, self.net.without_program, value)

    def test_with_home(self):
        self.assert_lines(self.net.with_home("p", "b"), self.text.replace("p at a", "p at b"))
        self.assert_lines(self.net.with_home("a", "a"), self.text.replace("a at b", "a at a"))
        self.assert_lines(self.net.with_home("p", "a"), self.text)

    def test_with_home_errors(self):
        for value in self.no_programs():
            self.assert_raises(NoProgram, value, self.net.with_home, value, "a")
            self.assert_raises(NoProgram, value, self.net.with_home, value, "z")
        for value in self.no_zones():
            self.assert_raises(NoZone, value, self.net.with_home, "p", value)


class RulesTest(OtherNetTestCase):

    def test_with_rule(self):
        self.assert_lines(self.net.with_rule("p", "fixed", "float"), self.text.replace(
            "p at a\n", "p at a\n  fixed -> float\n"))
        self.assert_lines(self.net.with_rule("a", "float", "day"), self.text.replace(
            "5 70\n", "5 70\n  float -> day\n"))
        self.assert_lines(self.net.with_rule("a", "zoned", "keep"), self.text.replace("  zoned -> as if\n", ""))
        self.assert_lines(self.net.with_rule("a", "zoned", "moved"), self.text.replace("as if", "moved"))
        self.assert_lines(self.net.with_rule("p", "day", "keep"), self.text)
        for kind in KINDS:
            for rule in RULES[kind]:
                other = self.net.with_rule("a", kind, rule)
                self.assertEqual(other.rule_of("a", kind), rule)
                self.assertEqual(other.rule_of("q", "float"), "day")

    def test_with_rule_bad_rule(self):
        for kind in KINDS:
            others = [rule for other in KINDS for rule in RULES[other] if rule not in RULES[kind]]
            for value in [*odd_values(), *integers(), "", " ", "keep ", "-> keep", f"{kind} -> keep",
                          "day\nroute p p", "keep\n", *others]:
                self.assert_raises(BadRule, value, self.net.with_rule, "p", kind, value)
        for hours in ["0 1440", "-1 5", "9 8", "0", "00 1", "0  1", "0 1 2", "0 1\n"]:
            value = f"fixed {hours}"
            self.assert_raises(BadRule, value, self.net.with_rule, "p", "day", value)

    def test_with_rule_bad_kind(self):
        for value in [*odd_values(), *integers(), "", "week", "Day", "keep", "zoned "]:
            self.assert_raises(BadKind, value, self.net.with_rule, "p", value, "keep")
            self.assert_raises(BadKind, value, self.net.with_rule, "p", value, 5)

    def test_with_rule_no_program(self):
        for value in self.no_programs():
            self.assert_raises(NoProgram, value, self.net.with_rule, value, "day", "keep")
            self.assert_raises(NoProgram, value, self.net.with_rule, value, "week", 5)

    def test_examples_by_hand(self):
        net = Net(EXAMPLE)
        self.assert_raises(BadRule, "day", net.with_rule, "desk", "day", "day")
        other = net.with_rule("phone", "fixed", "keep").with_rule("phone", "zoned", "keep")
        self.assertEqual(other.without_program("desk").text, "zone home 0\nzone west -300\nprogram phone at west")


class RoutesTest(OtherNetTestCase):

    def test_with_route(self):
        self.assert_lines(self.net.with_route("q", "a"), self.text + "\nroute q a")
        self.assert_lines(self.net.with_route("p", "p"), self.text + "\nroute p p")
        self.assert_lines(self.net.with_route("q", "p"), self.text)
        self.assert_lines(self.net.with_route("a", "a"), self.text)

    def test_without_route(self):
        self.assert_lines(self.net.without_route("q", "p"), self.text.replace("\nroute q p", ""))
        self.assert_lines(self.net.without_route("a", "a"), self.text.replace("\nroute a a", ""))
        self.assert_lines(self.net.without_route("q", "a"), self.text)
        self.assert_lines(self.net.without_route("p", "p"), self.text)

    def test_route_that_comes_again_stands_behind(self):
        other = self.net.without_route("a", "a").with_route("a", "a")
        self.assertEqual(other.routes, (("q", "p"), ("p", "q"), ("a", "q"), ("a", "a")))

    def test_with_route_too_many(self):
        head = "zone a 0\n" + programs(12) + "\n"
        full = Net(head + routes(40))
        self.assertEqual(Net(head + routes(39)).with_route("e", "h"), full)
        self.assert_raises(TooMany, 40, full.with_route, "l", "l")
        self.assertEqual(full.with_route("a", "a"), full)
        self.assertEqual(full.with_route("e", "h"), full)
        self.assert_raises(NoProgram, "z", full.with_route, "a", "z")

    def test_no_program(self):
        for value in self.no_programs():
            for ask in [self.net.with_route, self.net.without_route]:
                self.assert_raises(NoProgram, value, ask, value, "p")
                self.assert_raises(NoProgram, value, ask, value, None)
                self.assert_raises(NoProgram, value, ask, "p", value)


class ChainTest(OtherNetTestCase):

    def test_net_made_step_by_step(self):
        net = Net("").with_zone("home", 0).with_zone("west", 5).with_offset("west", -300)
        net = net.with_program("desk", "home").with_program("phone", "home").with_home("phone", "west")
        net = net.with_rule("desk", "day", "fixed 0 1439").with_rule("phone", "fixed", "day")
        net = net.with_rule("phone", "zoned", "home float").with_route("desk", "phone")
        net = net.with_route("phone", "phone").with_route("phone", "desk").without_route("phone", "phone")
        self.assertEqual(net, Net(EXAMPLE))


if __name__ == "__main__":
    unittest.main()

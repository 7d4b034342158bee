"""Points 10 and 11: states, their order, their steps, and walks to them."""

import random
import unittest

from tests.plain import held, plain_along, plain_reach, plain_shown, plain_state, plain_states, random_entry, random_net
from tests.values import Same, no_names, odd_values
from whoseday.copies import moved_days
from whoseday.entries import Entry
from whoseday.errors import BadNumber, NoProgram, NoRoute, NoZone, TooMany
from whoseday.homes import comes_home, strays
from whoseday.nets import Net
from whoseday.states import States

N = Net(
    "zone here 0\nzone west -300\nprogram desk at here\n  day -> fixed 0 1439\nprogram phone at west\n"
    "  fixed -> day\nroute desk phone\nroute phone desk"
)
DAY = Entry("day 10 to 10")
# A ring of 20 laps of two copies leads to one of 480 laps of two copies.
THOUSAND = Net(
    "zone here 0\nzone far 72\nzone near 3\n"
    "program c at here\n  fixed -> float\nprogram d at far\n  float -> fixed\n"
    "program a at here\n  fixed -> float\nprogram b at near\n  float -> fixed\nprogram e at here\n  float -> day\n"
    "route c d\nroute d c\nroute c a\nroute a b\nroute b a"
)
MORE = THOUSAND.with_route("a", "e")
FLOAT = Entry("float 0 to 1")


def wrong_points(net):
    """Calls' arguments behind net with the errors that are told for them, first faults first."""
    east = Entry("zoned 0 to 0 east")
    p = net.programs[0]
    for value in no_names() + ["zzz", net.zones[0]]:
        for entry, end in ((DAY, 0), (east, 0), (east, value), (DAY, 2)):
            yield (value, entry, end), NoProgram, value
    for end in [0, 1, *odd_values(), 2, -1, "0"]:
        yield (p, east, end), NoZone, "east"
    for end in [*odd_values(), 2, -1, 10 ** 30, "0", "1", ""]:
        yield (p, DAY, end), BadNumber, end


def field_of(error):
    return list(vars(error).values())[0]


def is_same(one, other):
    """Tells whether two values are one, or one text; they may be such as cannot be compared."""
    return one is other or (isinstance(one, str) and isinstance(other, str) and one == other)


class StatesTest(unittest.TestCase):

    def test_example_by_hand(self):
        states = States(N, "phone", DAY, 0)
        self.assertEqual(states.found, (("phone", "day", None, 0), ("desk", "fixed", None, 0)))
        self.assertEqual(states.steps, (((1, 0, "desk"),), ((0, -1, "phone"),)))
        later = States(N, "phone", DAY, 1)
        self.assertEqual(later.found, (("phone", "day", None, 0), ("desk", "fixed", None, 1439)))
        self.assertEqual(later.steps, (((1, 0, "desk"),), ((0, 0, "phone"),)))
        self.assertEqual(states.lead(("desk", "phone", "desk")), (1, -1))
        with self.assertRaises(NoRoute) as caught:
            states.lead(("phone",))
        self.assertEqual(caught.exception.index, 0)

    def test_attributes_are_tuples_on_the_object(self):
        states = States(N, "phone", DAY, 0)
        self.assertIn("found", vars(states))
        self.assertIn("steps", vars(states))
        for value in (states.found, states.steps, *states.found, *states.steps, *states.steps[0]):
            self.assertIs(type(value), tuple)

    def test_order_of_states_and_steps(self):
        net = Net(
            "zone a 0\nzone b 60\nprogram p at a\nprogram q at b\n  float -> fixed\nprogram r at a\n  float -> day\n"
            "program s at b\n  float -> zoned\nprogram z at a\n"
            "route p s\nroute q r\nroute p p\nroute p r\nroute s q\nroute p q\nroute z p"
        )
        states = States(net, "p", Entry("float 1500 to 1505"), 1)
        self.assertEqual(states.found, (
            ("p", "float", None, 65), ("s", "zoned", "b", 65), ("r", "day", None, 0), ("q", "fixed", None, 5),
            ("q", "zoned", "b", 65), ("r", "fixed", None, 5), ("r", "zoned", "b", 65),
        ))
        self.assertEqual(states.steps, (
            ((1, 0, "s"), (0, 0, "p"), (2, 0, "r"), (3, 0, "q")), ((4, 0, "q"),), (), ((5, 0, "r"),), ((6, 0, "r"),), (), (),
        ))
        self.assertEqual(states.at("z"), ())
        self.assertEqual(states.at("r"), (2, 5, 6))
        self.assertEqual(states.at("q"), (3, 4))

    def test_against_states_gone_through_plainly(self):
        rng = random.Random(11)
        for _ in range(150):
            net = random_net(rng, step=rng.choice([120, 360, 480]), routes=rng.randint(0, 14))
            entry = random_entry(rng, net)
            p, end = rng.choice(net.programs), rng.randint(0, 1)
            states = States(net, p, entry, end)
            found, steps = plain_states(net, p, held(entry), end)
            self.assertEqual(states.found, tuple(found))
            self.assertEqual(states.steps, tuple(steps))
            self.assertEqual(len(states), len(found))
            self.assertEqual(list(states), found)
            self.assertEqual([one for one in states], found)
            self.assertEqual([states.index_of(one) for one in found], list(range(len(found))))
            for q in net.programs:
                self.assertEqual(states.at(q), tuple(at for at, one in enumerate(found) if one[0] == q))

    def test_minutes_below_0_and_beside_midnight(self):
        net = Net("zone a -60\nprogram p at a\nprogram q at a\n  fixed -> float\nroute p q")
        for minute, rest, clock in [(-1, 1439, 1379), (0, 0, 1380), (59, 59, 1439), (60, 60, 0), (-1440, 0, 1380), (1440, 0, 1380)]:
            states = States(net, "p", Entry(f"fixed {minute} to {minute}"), 0)
            self.assertEqual(states.found, (("p", "fixed", None, rest), ("q", "float", None, clock)))
            self.assertEqual(states.steps, (((1, 0, "q"),), ()))

    def test_entries_that_differ_by_whole_days_have_the_same_states(self):
        for many in (1, -5, 10 ** 30 - 1):
            one, other = States(MORE.without_program("c"), "a", FLOAT, 1), None
            other = States(MORE.without_program("c"), "a", FLOAT + many, 1)
            self.assertEqual((one.found, one.steps), (other.found, other.steps))

    def test_membership_and_index_of_any_value(self):
        states = States(N, "phone", DAY, 0)
        desk = ("desk", "fixed", None, 0)
        self.assertIs(desk in states, True)
        self.assertEqual(states.index_of(desk), 1)
        for value in odd_values() + [
            list(desk), "desk", 1, 0, ("desk", "fixed", None, 1), ("desk", "fixed", None), (*desk, 0), ("desk", "fixed", "here", 0),
            ("desk", [], None, 0), ("desk", {}, {1}, 0), (desk,), ((), (), (), ()), (1, 2, 3, 4),
        ]:
            self.assertIs(value in states, False)
            self.assertIsNone(states.index_of(value))
        # By ==, these tuples are equal to a state.
        for value in (("desk", "fixed", None, False), ("desk", "fixed", None, 0.0), ("desk", Same(), None, 0)):
            self.assertIs(value in states, True)
            self.assertEqual(states.index_of(value), 1)

    def test_at_raises_for_what_is_no_program(self):
        states = States(N, "phone", DAY, 0)
        self.assertEqual(states.at("desk"), (1,))
        for value in no_names() + ["here", "zzz"]:
            with self.assertRaises(NoProgram) as caught:
                states.at(value)
            self.assertIs(caught.exception.name, value)

    def test_errors_in_their_order(self):
        for ask in (States, comes_home, strays):
            for net in (N, MORE):
                for args, kind, field in wrong_points(net):
                    with self.assertRaises(kind) as caught:
                        ask(net, *args)
                    self.assertIs(type(caught.exception), kind)
                    self.assertTrue(is_same(field_of(caught.exception), field))

    def test_a_net_of_nothing(self):
        with self.assertRaises(NoProgram):
            States(Net(""), "p", DAY, 0)

    def test_just_1000_states_and_1001(self):
        for end in (0, 1):
            self.assertEqual(len(States(THOUSAND, "c", FLOAT, end)), 1000)
            for net in (MORE, MORE.without_route("b", "a").with_route("b", "a")):
                for ask in (States, comes_home, strays):
                    with self.assertRaises(TooMany) as caught:
                        ask(net, "c", FLOAT, end)
                    self.assertEqual(caught.exception.most, 1000)

    def test_far_more_than_1000_states(self):
        net = Net("zone a 0\nzone b 1\nprogram p at a\n  fixed -> float\nprogram q at b\n  float -> fixed\nroute p q\nroute q p")
        for entry in (FLOAT, Entry("fixed 5 to 5")):
            with self.assertRaises(TooMany) as caught:
                States(net, "p", entry, 0)
            self.assertEqual(caught.exception.most, 1000)
        self.assertEqual(len(States(net.without_route("q", "p"), "p", FLOAT, 0)), 2)


class LeadTest(unittest.TestCase):

    def test_walks_against_plain_copies(self):
        rng = random.Random(12)
        for _ in range(100):
            net = random_net(rng, step=360, routes=rng.randint(2, 14))
            entry = random_entry(rng, net)
            p, end = rng.choice(net.programs), rng.randint(0, 1)
            states = States(net, p, entry, end)
            walk = [p]
            while net.targets_of(walk[-1]) and len(walk) < 15:
                index, days = states.lead(tuple(walk[1:]))
                last = plain_along(net, walk, held(entry))[-1]
                self.assertEqual(states.found[index], plain_state(walk[-1], last, end))
                self.assertEqual(days, plain_shown(net, walk[-1], last)[end] - plain_shown(net, p, held(entry))[end])
                self.assertEqual(states.lead(walk[1:]), (index, days))
                walk.append(rng.choice(net.targets_of(walk[-1])))

    def test_no_names(self):
        self.assertEqual(States(N, "phone", DAY, 0).lead(()), (0, 0))
        self.assertEqual(States(N, "phone", DAY, 0).lead([]), (0, 0))

    def test_many_names(self):
        self.assertEqual(States(N, "phone", DAY, 0).lead(("desk", "phone") * 20000), (0, -20000))

    def test_no_route(self):
        states = States(N, "phone", DAY, 0)
        for value in no_names() + ["zzz", "phone"]:
            for row, index in [([value], 0), (["desk", "phone", value], 2), (("desk", "phone", value, "desk"), 2)]:
                with self.assertRaises(NoRoute) as caught:
                    states.lead(row)
                self.assertEqual(caught.exception.index, index)
        with self.assertRaises(NoRoute) as caught:
            states.lead(("desk", "desk", "zzz"))
        self.assertEqual(caught.exception.index, 1)


class WayTest(unittest.TestCase):

    def test_ways_are_shortest(self):
        rng = random.Random(13)
        for _ in range(100):
            net = random_net(rng, step=360, routes=rng.randint(2, 14))
            entry = random_entry(rng, net)
            p, end = rng.choice(net.programs), rng.randint(0, 1)
            states = States(net, p, entry, end)
            fewest = {}
            for (node, _), copies in plain_reach(states.steps, 8).items():
                fewest.setdefault(node, copies)
            for index in range(len(states)):
                way = states.way(index)
                self.assertIs(type(way), tuple)
                at, days = states.lead(way)
                self.assertEqual(at, index)
                self.assertEqual(moved_days(net, (p, *way), entry)[end], days)
                self.assertEqual(len(way), fewest[index])

    def test_the_way_to_the_first_state_is_empty(self):
        self.assertEqual(States(N, "phone", DAY, 0).way(0), ())
        net = Net("zone a 0\nprogram p at a\nroute p p")
        self.assertEqual(States(net, "p", DAY, 0).way(0), ())

    def test_a_far_state(self):
        states = States(THOUSAND, "c", FLOAT, 0)
        way = states.way(999)
        self.assertEqual(states.lead(way)[0], 999)

    def test_errors(self):
        states = States(N, "phone", DAY, 0)
        for value in odd_values() + [-1, -2, 2, 3, 10 ** 30, "0", ""]:
            with self.assertRaises(BadNumber) as caught:
                states.way(value)
            self.assertIs(caught.exception.number, value)


if __name__ == "__main__":
    unittest.main()

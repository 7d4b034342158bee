"""Point 44: weekdays and other cycles of the days on which an entry can show."""

import itertools
import random
import unittest

from tests.plain import gone, held, plain_along, plain_reach, plain_shown, plain_states, random_entry, random_net, turning_net
from tests.test_states import DAY, FLOAT, MORE, N, THOUSAND, is_same, wrong_points
from tests.values import no_names, odd_values
from whoseday.days import days_at
from whoseday.entries import Entry
from whoseday.errors import BadNumber, NoProgram, TooMany
from whoseday.nets import Net
from whoseday.weeks import mixed_up, next_on, off_cycle, shifts

GREAT = 10 ** 30 - 1
# Each round of desk and phone moves the days by one, each round of desk and far by two.
STEPS = Net(
    "zone here 0\nzone west -300\nprogram desk at here\n  day -> fixed 0 1439\nprogram phone at west\n  fixed -> day\n"
    "program first at here\nroute first desk\nroute desk phone\nroute phone desk"
)


class CyclesTest(unittest.TestCase):

    def test_examples_by_hand(self):
        self.assertEqual(shifts(N, "phone", DAY, "phone", 0), (0, 1, 2, 3, 4, 5, 6))
        self.assertEqual(shifts(N, "phone", DAY, "phone", 1), (0,))
        self.assertEqual(off_cycle(N, "phone", DAY, 0), ("desk", "phone"))
        self.assertIsNone(off_cycle(N, "phone", DAY, 1))
        self.assertEqual(next_on(N, "phone", DAY, "phone", 0, 4, 1), 8)
        self.assertEqual(next_on(N, "phone", DAY, "phone", 0, 4, 4), 4)
        self.assertEqual(next_on(N, "phone", DAY, "phone", 0, 4, 2), 9)
        self.assertIsNone(next_on(N, "phone", DAY, "phone", 0, 9, 1))
        self.check_mixed(N, "phone", DAY, "phone", 0, 7, mixed_up(N, "phone", DAY, "phone", 0, 7))
        self.check_mixed(N, "phone", DAY, "phone", 0, 7, ((), ((("desk", "phone"), 7),)))
        self.assertIsNone(mixed_up(N, "phone", DAY, "phone", 1, 7))

    def check_mixed(self, net, p, entry, q, end, every, told):
        self.assertIs(type(told), tuple)
        one, other = [gone(self, net, p, held(entry), end, blocks) for blocks in told]
        self.assertEqual((one[0], other[0]), (q, q))
        self.assertNotEqual(one[2], other[2])
        self.assertEqual((one[2] - other[2]) % every, 0)

    def check_off(self, net, p, entry, end, cycle, rests):
        row = off_cycle(net, p, entry, end, cycle=cycle)
        wanted = [copies for (_, rest), copies in rests.items() if rest != 0]
        self.assertEqual(row is None, not wanted)
        if row is not None:
            self.assertIs(type(row), tuple)
            self.assertEqual(len(row), min(wanted))
            self.assertTrue(all(route in net.routes for route in zip((p, *row), row)))
            last = plain_along(net, (p, *row), held(entry))[-1]
            moved = plain_shown(net, row[-1], last)[end] - plain_shown(net, p, held(entry))[end]
            self.assertNotEqual(moved % cycle, 0)

    def check(self, net, p, entry, end, cycle, every):
        """Holds all four against the states gone through one by one."""
        found, steps = plain_states(net, p, held(entry), end)
        rests = {(0, 0): 0}
        line = [(0, 0)]
        for node, rest in line:
            for goal, days, _ in steps[node]:
                pair = (goal, (rest + days) % cycle)
                if pair not in rests:
                    rests[pair] = rests[node, rest] + 1
                    line.append(pair)
        self.check_off(net, p, entry, end, cycle, rests)
        reach = plain_reach(steps, 100)
        first = plain_shown(net, p, held(entry))[end]
        rng = random.Random(net.text)
        for q in net.programs:
            self.assertEqual(
                shifts(net, p, entry, q, end, cycle=cycle),
                tuple(sorted({rest for node, rest in rests if found[node][0] == q})),
            )
            days = sorted(first + more for node, more in reach if found[node][0] == q and abs(more) <= 60)
            low, rest = first + rng.randint(-20, 20), rng.randrange(cycle)
            told = next_on(net, p, entry, q, end, low, rest, cycle=cycle)
            fit = [day for day in days if day >= low and day % cycle == rest]
            self.assertTrue(told == fit[0] if fit else told is None or told > first + 60)
            if told is not None:
                self.assertIn(told - first, days_at(net, p, entry, q, end))
            pairs = [(one - other) % every for one, other in itertools.combinations(days, 2) if one != other]
            mixed = mixed_up(net, p, entry, q, end, every)
            self.assertEqual(mixed is not None, 0 in pairs)
            if mixed is not None:
                self.check_mixed(net, p, entry, q, end, every, mixed)
        return len(rests) > len(found)

    def test_random_nets(self):
        rng = random.Random(44)
        told = {True: 0, False: 0}
        for turn in range(260):
            net = turning_net(rng) if turn % 2 else random_net(rng)
            entry, p, end = random_entry(rng, net), rng.choice(net.programs), rng.randint(0, 1)
            told[self.check(net, p, entry, end, rng.choice([1, 2, 3, 7, 12]), rng.choice([1, 2, 5, 7]))] += 1
        self.assertGreater(min(told.values()), 20, told)

    def test_cycles_of_one_and_of_four_hundred(self):
        for end in (0, 1):
            self.assertEqual(shifts(N, "phone", DAY, "phone", end, cycle=1), (0,))
            self.assertIsNone(off_cycle(N, "phone", DAY, end, cycle=1))
        self.assertEqual(shifts(N, "phone", DAY, "phone", 0, cycle=400), tuple(range(400)))
        self.assertEqual(off_cycle(N, "phone", DAY, 0, cycle=400), ("desk", "phone"))
        self.assertEqual(next_on(N, "phone", DAY, "phone", 0, -1000, 399, cycle=400), -801)
        self.assertEqual(next_on(N, "phone", DAY, "phone", 0, -3, 0, cycle=1), -3)
        self.assertEqual(next_on(N, "phone", DAY, "desk", 0, -3, 9, cycle=400), 9)
        self.check_mixed(N, "phone", DAY, "desk", 0, 400, mixed_up(N, "phone", DAY, "desk", 0, 400))
        self.check_mixed(N, "phone", DAY, "desk", 0, 1, mixed_up(N, "phone", DAY, "desk", 0, 1))

    def test_a_cycle_is_seven_days_by_itself(self):
        for end in (0, 1):
            self.assertEqual(shifts(STEPS, "first", DAY, "phone", end), shifts(STEPS, "first", DAY, "phone", end, cycle=7))
            self.assertEqual(off_cycle(STEPS, "first", DAY, end), off_cycle(STEPS, "first", DAY, end, cycle=7))
            self.assertEqual(
                next_on(STEPS, "first", DAY, "phone", end, 3, 3), next_on(STEPS, "first", DAY, "phone", end, 3, 3, cycle=7)
            )
        for ask in (lambda: shifts(N, "phone", DAY, "phone", 0, 7), lambda: off_cycle(N, "phone", DAY, 0, 7),
                    lambda: next_on(N, "phone", DAY, "phone", 0, 4, 1, 7)):
            with self.assertRaises(TypeError):
                ask()

    def test_rests_that_never_come(self):
        # Each round moves the days by two, so that their rests by 4 are even, and those by 7 are all.
        net = Net(
            "zone here 0\nzone west -300\nprogram a at here\n  day -> fixed 0 0\nprogram b at west\n  fixed -> day\n"
            "program c at here\n  day -> fixed 0 0\nprogram d at west\n  fixed -> day\n"
            "route a b\nroute b c\nroute c d\nroute d a"
        )
        entry = Entry("day 0 to 0")
        self.assertEqual(shifts(net, "d", entry, "d", 0, cycle=4), (0, 2))
        self.assertEqual(shifts(net, "d", entry, "b", 0, cycle=4), (1, 3))
        self.assertEqual(shifts(net, "d", entry, "d", 1), (0, 1, 2, 3, 4, 5, 6))
        self.assertIsNone(next_on(net, "d", entry, "d", 0, -10, 1, cycle=4))
        self.assertEqual(next_on(net, "d", entry, "d", 0, -9, 2, cycle=4), -6)
        self.assertEqual(off_cycle(net, "d", entry, 0, cycle=2), ("a", "b"))
        self.check_mixed(net, "d", entry, "d", 0, 3, mixed_up(net, "d", entry, "d", 0, 3))

    def test_days_of_thirty_digits(self):
        for low, rest in ((-GREAT, 5), (-GREAT * GREAT, 6), (-10, 0)):
            day = next_on(N, "phone", DAY, "phone", 0, low, rest)
            self.assertTrue(low <= day < low + 7)
            self.assertEqual(day % 7, rest)
        self.assertIsNone(next_on(N, "phone", DAY, "phone", 0, GREAT, 5))
        far = Entry(f"day {GREAT} to {GREAT}")
        self.assertEqual(next_on(N, "phone", far, "phone", 0, GREAT - 6, GREAT % 7), GREAT)
        self.assertEqual(next_on(N, "phone", far, "phone", 0, GREAT - 8, GREAT % 7), GREAT - 7)
        self.assertEqual(next_on(N, "phone", far, "phone", 1, -GREAT, GREAT % 7), GREAT)
        self.assertIsNone(next_on(N, "phone", far, "phone", 1, -GREAT, (GREAT + 1) % 7))

    def test_no_routes_lead_there(self):
        net = N.without_route("desk", "phone")
        self.assertEqual(shifts(net, "desk", DAY, "phone", 0), ())
        self.assertIsNone(next_on(net, "desk", DAY, "phone", 0, 0, 0))
        self.assertIsNone(mixed_up(net, "desk", DAY, "phone", 0, 1))
        self.assertEqual(shifts(net, "desk", DAY, "desk", 0), (0,))
        self.assertEqual(next_on(net, "desk", DAY, "desk", 0, 10, 3), 10)
        self.assertIsNone(next_on(net, "desk", DAY, "desk", 0, 11, 3))


class ErrorsTest(unittest.TestCase):

    def asks(self, net, p, entry, q, end, cycle):
        yield lambda: shifts(net, p, entry, q, end, cycle=cycle)
        yield lambda: next_on(net, p, entry, q, end, None, None, cycle=cycle)
        yield lambda: mixed_up(net, p, entry, q, end, None)

    def test_errors_in_their_order(self):
        for (p, entry, end), error, value in wrong_points(N):
            for cycle in (7, None):
                for ask in [*self.asks(N, p, entry, "desk", end, cycle), lambda: off_cycle(N, p, entry, end, cycle=cycle)]:
                    with self.assertRaises(error) as caught:
                        ask()
                    self.assertTrue(is_same(list(vars(caught.exception).values())[0], value))
        east = Entry("zoned 0 to 0 east")
        for value in no_names() + ["zzz", "here"]:
            for entry, end in ((DAY, 0), (east, 2)):
                for ask in self.asks(N, "desk", entry, value, end, 0):
                    with self.assertRaises(NoProgram) as caught:
                        ask()
                    self.assertIs(caught.exception.name, value)

    def test_a_thousand_states_and_one_more(self):
        for ask in [*self.asks(MORE, "c", FLOAT, "c", 0, None), lambda: off_cycle(MORE, "c", FLOAT, 0, cycle=None)]:
            with self.assertRaises(TooMany) as caught:
                ask()
            self.assertEqual(caught.exception.most, 1000)
        self.assertEqual(shifts(THOUSAND, "c", FLOAT, "c", 0), tuple(range(7)))
        self.assertLess(len(off_cycle(THOUSAND, "c", FLOAT, 0)), 1000)
        self.check = CyclesTest.check_mixed
        told = mixed_up(THOUSAND, "c", FLOAT, "b", 0, 400)
        self.check(self, THOUSAND, "c", FLOAT, "b", 0, 400, told)

    def test_cycles(self):
        for value in [*odd_values(), 0, -1, 401, 10 ** 30, "7", ""]:
            for ask in (
                lambda: shifts(N, "phone", DAY, "phone", 0, cycle=value), lambda: off_cycle(N, "phone", DAY, 0, cycle=value),
                lambda: next_on(N, "phone", DAY, "phone", 0, None, -1, cycle=value),
                lambda: mixed_up(N, "phone", DAY, "phone", 0, value),
            ):
                with self.assertRaises(BadNumber) as caught:
                    ask()
                self.assertIs(caught.exception.number, value)

    def test_low_and_rest(self):
        for value in [*odd_values(), "", "4"]:
            for rest in (1, None, 7, value):
                with self.assertRaises(BadNumber) as caught:
                    next_on(N, "phone", DAY, "phone", 0, value, rest)
                self.assertIs(caught.exception.number, value)
        for cycle in (1, 7, 400):
            for value in [*odd_values(), -1, cycle, 10 ** 30, "0"]:
                with self.assertRaises(BadNumber) as caught:
                    next_on(N, "phone", DAY, "phone", 0, -GREAT, value, cycle=cycle)
                self.assertIs(caught.exception.number, value)
            next_on(N, "phone", DAY, "phone", 0, 0, cycle - 1, cycle=cycle)


if __name__ == "__main__":
    unittest.main()

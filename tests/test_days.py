"""Points 19 to 24: the days on which an entry can show, and how fast it wanders."""

import random
import unittest

from tests.plain import (
    gone, held, plain_along, plain_reach, plain_shown, plain_states, random_entry, random_net, turning_net,
)
from tests.test_states import DAY, FLOAT, MORE, N, THOUSAND, field_of, is_same, wrong_points
from tests.values import no_names, odd_values
from whoseday.days import after, can_show, days_at, drift, growth
from whoseday.entries import Entry
from whoseday.errors import BadNumber, NoProgram, NoZone, TooMany
from whoseday.nets import Net
from whoseday.pieces import Days

NOON = N.with_rule("desk", "day", "fixed 720 720")
GREAT = 10 ** 30 - 1
# Days gained by day -> fixed 720 .. at home and fixed -> day far ahead or behind of it.
HEAD = "zone here 0\nzone ahead 840\nzone behind -840\n"


def asking(net, p, entry, q, end):
    """All five questions, with numbers that are as they should be."""
    yield lambda: days_at(net, p, entry, q, end)
    yield lambda: can_show(net, p, entry, q, end, 0)
    yield lambda: after(net, p, entry, q, end, 3)


class DaysTest(unittest.TestCase):

    def check(self, net, p, entry, q, end, far=24):
        """Holds days_at, can_show and drift against all walks within far days."""
        states, steps = plain_states(net, p, held(entry), end)
        reach = plain_reach(steps, 5 * far)
        wanted = {days for node, days in reach if states[node][0] == q and abs(days) <= far}
        days = days_at(net, p, entry, q, end)
        self.assertIsInstance(days, Days)
        self.assertEqual({day for day in range(-far, far + 1) if day in days}, wanted)
        beyond = {node: days for node, days in reach if abs(days) > far}
        moving = drift(net, p, entry, end)
        self.assertEqual(moving is None, not beyond or max(abs(days) for days in beyond.values()) < 2 * far)
        if moving is not None:
            self.check_drift(net, p, entry, end, *moving)
        elif wanted:
            self.assertEqual((days.least, days.greatest), (min(wanted), max(wanted)))
        rng = random.Random(net.text)
        for day in [*rng.sample(range(-far, far), 6), rng.randint(-GREAT, GREAT), GREAT, -GREAT]:
            self.check_day(net, p, entry, q, end, day, days)
        return days

    def check_day(self, net, p, entry, q, end, day, days):
        walk = can_show(net, p, entry, q, end, day)
        self.assertEqual(walk is not None, day in days)
        if walk is not None:
            last, _, moved = gone(self, net, p, held(entry), end, walk)
            self.assertEqual((last, moved), (q, day))

    def check_drift(self, net, p, entry, end, way, ring):
        self.assertIs(type(way), tuple)
        self.assertIs(type(ring), tuple)
        self.assertGreater(len(ring), 0)
        _, _, before = gone(self, net, p, held(entry), end, ((way, 1),) if way else ())
        _, _, behind = gone(self, net, p, held(entry), end, (((way, 1),) if way else ()) + ((ring, 2),))
        self.assertNotEqual(before, behind)

    def test_example_by_hand(self):
        days = days_at(N, "phone", DAY, "phone", 0)
        self.assertEqual((days.greatest, days.least, days.goes_down, days.goes_up), (0, None, True, False))
        self.assertEqual([days.next_to(-5), -1000 in days, 1 in days], [-5, True, False])
        self.assertTrue(Days.same(days, Days([("down", 0, 1)]), -5000, 5000))
        _, _, moved = gone(self, N, "phone", held(DAY), 0, can_show(N, "phone", DAY, "phone", 0, -1000))
        self.assertEqual(moved, -1000)
        self.check_drift(N, "phone", DAY, 0, *drift(N, "phone", DAY, 0))
        self.assertIsNone(drift(N, "phone", DAY, 1))
        for end in (0, 1):
            found = days_at(NOON, "phone", DAY, "phone", end)
            self.assertEqual((found.least, found.greatest), (0, 0))
            self.assertIsNone(drift(NOON, "phone", DAY, end))

    def test_the_walk_of_no_copies(self):
        self.assertEqual(can_show(N, "phone", DAY, "phone", 0, 0), ())
        self.assertEqual(can_show(N, "desk", DAY, "desk", 1, 0), ())
        self.assertIsNone(can_show(N, "phone", DAY, "phone", 0, 1))

    def test_programs_that_no_walk_reaches(self):
        net = N.with_program("alone", "west").with_route("alone", "desk")
        for end in (0, 1):
            self.assertEqual(days_at(net, "phone", DAY, "alone", end).pieces, ())
            self.assertIsNone(can_show(net, "phone", DAY, "alone", end, 0))
            self.assertIsNone(after(net, "phone", DAY, "alone", end, 0))
            self.assertIsNone(after(net, "phone", DAY, "alone", end, 60))
            self.check(net, "alone", DAY, "alone", end)
            self.check(net, "alone", DAY, "phone", end)
        self.assertEqual(days_at(net, "alone", DAY, "alone", 0).next_from(-10), 0)

    def test_against_all_walks(self):
        rng = random.Random(19)
        ways = set()
        for _ in range(250):
            net = random_net(rng, programs=rng.randint(1, 5), step=rng.choice([360, 480, 720]), routes=rng.randint(1, 12))
            entry = random_entry(rng, net)
            days = self.check(net, rng.choice(net.programs), entry, rng.choice(net.programs), rng.randint(0, 1))
            ways.add((days.goes_down, days.goes_up))
        self.assertEqual(len(ways), 4)

    def test_nets_that_turn_days_into_moments(self):
        rng = random.Random(20)
        ways = {}
        for _ in range(250):
            net = turning_net(rng, rng.randint(2, 6), rng.randint(2, 9))
            days = self.check(net, "p", DAY, rng.choice(net.programs), rng.randint(0, 1), 12)
            ways[days.goes_down, days.goes_up] = ways.get((days.goes_down, days.goes_up), 0) + 1
        self.assertGreater(min(ways.values()), 8)
        self.assertEqual(len(ways), 4)

    def test_two_rings_one_behind_the_other(self):
        # Between a and b a round gains two days, between c and d one day in three rounds.
        text = HEAD + (
            "zone third 480\nprogram a at behind\n  day -> fixed 1439 1439\nprogram b at ahead\n  fixed -> day\n"
            "program c at here\n  fixed -> float\n  day -> float 0 5\nprogram d at third\n  float -> fixed\n"
            "program e at ahead\n  day -> fixed 0 1439\nprogram f at behind\n  fixed -> day\n"
            "route a b\nroute b a\nroute b c\nroute c d\nroute d c\nroute d f\nroute f e\nroute e f\n"
        ).rstrip("\n")
        net = Net(text)
        for end in (0, 1):
            self.assertTrue(days_at(net, "a", DAY, "b", end).goes_up)
            self.assertFalse(days_at(net, "a", DAY, "b", end).goes_down)
            for q in net.programs:
                self.check(net, "a", DAY, q, end, 12)
        both = days_at(net, "a", DAY, "f", 0)
        self.assertTrue(both.goes_up and both.goes_down)

    def test_days_of_30_digits(self):
        for day in (-GREAT, GREAT):
            self.check_day(N, "phone", DAY + GREAT, "phone", 0, day, days_at(N, "phone", DAY, "phone", 0))
        walk = can_show(N, "phone", DAY - GREAT, "phone", 0, -GREAT)
        self.assertEqual(gone(self, N, "phone", held(DAY - GREAT), 0, walk)[2], -GREAT)

    def test_a_thousand_states(self):
        for end in (0, 1):
            days = days_at(THOUSAND, "c", FLOAT, "a", end)
            self.assertEqual((days.least, days.goes_up), (None if days.goes_down else days.least, False))
            for day in (-10 ** 29, -17, 0, 3):
                self.check_day(THOUSAND, "c", FLOAT, "a", end, day, days)

    def test_long_rings_that_lead_into_one_another(self):
        # The states of a ring of 480 rounds, from each of which a day is made, and rings of days behind them.
        text = (
            "zone a -450\nzone b 477\nprogram p at a\n  fixed -> float\nprogram q at a\n  day -> float 300 720\n"
            "  zoned -> home day\n  fixed -> day\nprogram r at b\n  day -> zoned 300 1439\n  float -> fixed\n"
            "  zoned -> home float\n  fixed -> day\nroute r q\nroute q p\nroute r p\nroute r r\nroute p q\nroute q r\n"
            "route p p\nroute p r\nroute q q"
        )
        net, entry = Net(text), Entry("float -300 to 419")
        for q in net.programs:
            days = days_at(net, "p", entry, q, 0)
            for day in (-10 ** 29 - 5, -1000, -1, 0, 1, 2, 5):
                self.check_day(net, "p", entry, q, 0, day, days)

    def test_errors_in_their_order(self):
        for args, kind, field in wrong_points(N):
            p, entry, end = args
            calls = [*asking(N, p, entry, "desk", end), lambda: drift(N, p, entry, end), lambda: growth(N, p, entry, end)]
            calls += [lambda: can_show(N, p, entry, "desk", end, None), lambda: after(N, p, entry, "desk", end, -1)]
            for call in calls:
                with self.assertRaises(kind) as caught:
                    call()
                self.assertTrue(is_same(field_of(caught.exception), field))
        east = Entry("zoned 0 to 0 east")
        for value in no_names() + ["zzz", "west"]:
            for entry, end in ((DAY, 0), (east, 0), (east, 5), (DAY, None)):
                for call in asking(N, "phone", entry, value, end):
                    with self.assertRaises(NoProgram) as caught:
                        call()
                    self.assertIs(caught.exception.name, value)
                for call in asking(N, "zzz", entry, value, end):
                    with self.assertRaises(NoProgram) as caught:
                        call()
                    self.assertEqual(caught.exception.name, "zzz")
        for call in asking(N, "phone", east, "desk", 7):
            with self.assertRaises(NoZone):
                call()

    def test_bad_days_and_too_many_states(self):
        for value in odd_values() + ["0"]:
            with self.assertRaises(BadNumber) as caught:
                can_show(N, "phone", DAY, "desk", 0, value)
            self.assertIs(caught.exception.number, value)
        for call in [
            *asking(MORE, "c", FLOAT, "c", 0), lambda: drift(MORE, "c", FLOAT, 1), lambda: growth(MORE, "c", FLOAT, 0),
            lambda: can_show(MORE, "c", FLOAT, "e", 0, None), lambda: after(MORE, "c", FLOAT, "e", 0, 61),
        ]:
            with self.assertRaises(TooMany) as caught:
                call()
            self.assertEqual(caught.exception.most, 1000)
        # States are too many even where none of them is at q.
        far = MORE.with_program("z", "here")
        with self.assertRaises(TooMany):
            days_at(far, "c", FLOAT, "z", 0)


class AfterTest(unittest.TestCase):

    def test_example_by_hand(self):
        self.assertEqual(after(N, "phone", DAY, "phone", 0, 4), (-2, -2))
        self.assertIsNone(after(N, "phone", DAY, "phone", 0, 3))
        self.assertEqual(after(N, "phone", DAY, "phone", 0, 60), (-30, -30))
        self.assertEqual(after(N, "phone", DAY, "phone", 0, 0), (0, 0))
        self.assertIsNone(after(N, "phone", DAY, "desk", 0, 0))
        self.assertEqual(after(N, "phone", DAY, "phone", 1, 60), (0, 0))

    def test_against_all_walks(self):
        rng = random.Random(22)
        for turn in range(200):
            if turn % 2:
                net, entry = turning_net(rng, rng.randint(2, 5), rng.randint(2, 9)), DAY
            else:
                net = random_net(rng, programs=rng.randint(1, 4), routes=rng.randint(1, 8))
                entry = random_entry(rng, net)
            p, end = rng.choice(net.programs), rng.randint(0, 1)
            line = {(p, held(entry))}
            first = plain_shown(net, p, held(entry))[end]
            for n in range(6):
                for q in net.programs:
                    days = [plain_shown(net, q, one)[end] - first for at, one in line if at == q]
                    self.assertEqual(after(net, p, entry, q, end, n), (min(days), max(days)) if days else None)
                line = {
                    (q, plain_along(net, (at, q), one)[-1]) for at, one in line for q in net.targets_of(at)
                }

    def test_bad_numbers(self):
        for value in odd_values() + [-1, 61, 10 ** 30, -10 ** 30, "0"]:
            with self.assertRaises(BadNumber) as caught:
                after(N, "phone", DAY, "desk", 0, value)
            self.assertIs(caught.exception.number, value)


class GrowthTest(unittest.TestCase):

    def least_and_greatest(self, steps):
        """The least and the greatest mean of all rings that come to no node twice."""
        means = []

        def go(first, node, seen, days, copies):
            for goal, more, _ in steps[node]:
                if goal == first:
                    means.append((days + more, copies + 1))
                elif goal > first and goal not in seen:
                    go(first, goal, seen | {goal}, days + more, copies + 1)

        for first in range(len(steps)):
            go(first, first, {first}, 0, 0)
        return means

    def check(self, net, p, entry, end):
        states, steps = plain_states(net, p, held(entry), end)
        found = growth(net, p, entry, end)
        if len(states) > 14:
            return
        means = self.least_and_greatest(steps)
        if not means:
            self.assertIsNone(found)
            return
        (a, b), (c, d) = found
        self.assertIs(type(found), tuple)
        for top, low in ((a, b), (c, d)):
            self.assertGreaterEqual(low, 1)
            self.assertFalse([n for n in range(2, low + 1) if low % n == 0 and top % n == 0])
            self.assertTrue(any(days * low == top * copies for days, copies in means))
        self.assertTrue(all(a * copies <= days * b and days * d <= c * copies for days, copies in means))

    def test_examples_by_hand(self):
        self.assertEqual(growth(N, "phone", DAY, 0), ((-1, 2), (-1, 2)))
        self.assertEqual(growth(N, "phone", DAY, 1), ((0, 1), (0, 1)))
        for end in (0, 1):
            self.assertEqual(growth(NOON, "phone", DAY, end), ((0, 1), (0, 1)))

    def test_no_rings(self):
        self.assertIsNone(growth(N.without_route("desk", "phone"), "phone", DAY, 0))
        self.assertIsNone(growth(N.without_route("desk", "phone"), "desk", DAY, 1))
        self.assertIsNone(growth(Net("zone a 0\nprogram p at a"), "p", DAY, 0))
        self.assertEqual(growth(Net("zone a 0\nprogram p at a\nroute p p"), "p", DAY, 0), ((0, 1), (0, 1)))

    def test_rings_that_are_not_reached(self):
        net = N.with_program("c", "here").with_route("phone", "c").without_route("phone", "desk")
        self.assertIsNone(growth(net, "phone", DAY, 0))
        self.assertIsNone(growth(net, "c", DAY, 0))

    def test_against_all_rings(self):
        rng = random.Random(23)
        for _ in range(300):
            net = turning_net(rng, rng.randint(2, 6), rng.randint(2, 10))
            self.check(net, "p", DAY, rng.randint(0, 1))
            net = random_net(rng, programs=rng.randint(1, 4), step=rng.choice([480, 720]), routes=rng.randint(1, 7))
            self.check(net, rng.choice(net.programs), random_entry(rng, net), rng.randint(0, 1))

    def test_a_long_ring(self):
        # 300 minutes a lap of two copies: 5 days in 48 copies.
        text = "zone here 0\nzone west -300\nprogram a at here\n  fixed -> float\nprogram b at west\n  float -> fixed\nroute a b\nroute b a"
        self.assertEqual(growth(Net(text), "a", FLOAT, 0), ((5, 48), (5, 48)))
        self.assertEqual(growth(Net(text).with_route("b", "b"), "a", FLOAT, 0), ((0, 1), (5, 48)))
        self.assertEqual(growth(THOUSAND, "c", FLOAT, 1), ((-1, 40), (-1, 960)))


class SessionTest(unittest.TestCase):

    def test_the_session_of_the_document(self):
        days = days_at(N, "phone", DAY, "phone", 0)
        self.assertEqual(
            [days.greatest, days.goes_down, -1000 in days, 1 in days, days.next_to(-5)], [0, True, True, False, -5]
        )
        self.assertEqual([after(N, "phone", DAY, "phone", 0, 4), after(N, "phone", DAY, "phone", 0, 3)], [(-2, -2), None])
        self.assertEqual([growth(N, "phone", DAY, 0), drift(N, "phone", DAY, 1)], [((-1, 2), (-1, 2)), None])


if __name__ == "__main__":
    unittest.main()

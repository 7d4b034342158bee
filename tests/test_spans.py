"""Points 42 and 43: on how many days an entry shows, from its first to its last point."""

import random
import unittest

from tests.plain import (
    gone, held, plain_along, plain_copy, plain_reach, plain_shown, plain_state, random_entry, random_net, turning_net,
)
from tests.test_states import DAY, MORE, N, THOUSAND
from tests.values import no_names, odd_values
from whoseday.entries import Entry
from whoseday.errors import BadNumber, NoProgram, NoZone, TooMany
from whoseday.nets import Net
from whoseday.pieces import Days
from whoseday.spans import changes_span, grows, span_after, span_walk, spans_at

M = Net(
    "zone here 0\nzone west -300\nprogram a at here\n  fixed -> float\nprogram b at west\n  float -> fixed\n"
    "route a b\nroute b a"
)
LATE = Entry("float 1430 to 1449")
EAST = Entry("zoned 0 to 0 east")
GREAT = 10 ** 30 - 1


def plain_pairs(net, p, entry, most=3000):
    """The pairs of states, and the steps between them with what they add to the span."""
    found = [(plain_state(p, held(entry), 0), plain_state(p, held(entry), 1))]
    steps = []
    while len(steps) < len(found) <= most:
        pair = found[len(steps)]
        row = []
        for q in net.targets_of(pair[0][0]):
            goal, moved = [], []
            for end, (here, kind, zone, rest) in enumerate(pair):
                early = (kind, zone, rest, rest)
                late = plain_copy(net, q, early)
                goal.append(plain_state(q, late, end))
                moved.append(plain_shown(net, q, late)[end] - plain_shown(net, here, early)[end])
            if tuple(goal) not in found:
                found.append(tuple(goal))
            row.append((found.index(tuple(goal)), moved[1] - moved[0], q))
        steps.append(tuple(row))
    return found, steps


def span_of(net, p, entry):
    first, last = plain_shown(net, p, entry)
    return last - first + 1


def asking(net, p, entry, q):
    """All questions, with numbers that are as they should be."""
    yield lambda: spans_at(net, p, entry, q)
    yield lambda: span_walk(net, p, entry, q, 2)
    yield lambda: span_after(net, p, entry, q, 2)
    yield lambda: grows(net, p, entry)
    yield lambda: changes_span(net, p, entry)


class ExampleTest(unittest.TestCase):

    def test_example_by_hand(self):
        days = spans_at(N, "phone", DAY, "phone")
        self.assertIsInstance(days, Days)
        self.assertTrue(Days.same(days, Days([("up", 1, 1)]), -100, 5000))
        self.assertEqual((days.least, days.goes_up, days.goes_down), (1, True, False))
        blocks = span_walk(N, "phone", DAY, "phone", 1001)
        self.assertEqual(gone(self, N, "phone", held(DAY), 0, blocks)[::2], ("phone", -1000))
        self.assertEqual(span_after(N, "phone", DAY, "phone", 4), (3, 3))
        self.assertIsNone(span_after(N, "phone", DAY, "phone", 3))
        self.assertEqual(span_after(N, "phone", DAY, "desk", 3), (2, 2))
        self.assertEqual(grows(N, "phone", DAY)[1], ("desk", "phone"))
        self.assertEqual(changes_span(N, "phone", DAY), ("desk", "phone"))

    def test_spans_that_come_and_go(self):
        days = spans_at(M, "a", LATE, "a")
        self.assertEqual((days.least, days.greatest, 1 in days, 2 in days, 3 in days), (1, 2, True, True, False))
        self.assertIsNone(grows(M, "a", LATE))
        self.assertEqual(changes_span(M, "a", LATE), ("b", "a"))
        self.assertEqual(span_after(M, "a", LATE, "a", 0), (2, 2))
        self.assertEqual(span_after(M, "a", LATE, "a", 2), (1, 1))

    def test_the_walk_of_no_copies(self):
        self.assertEqual(span_walk(N, "phone", DAY, "phone", 1), ())
        self.assertEqual(span_walk(M, "a", LATE, "a", 2), ())
        self.assertEqual(span_after(N, "phone", DAY, "phone", 0), (1, 1))
        self.assertIsNone(span_after(N, "phone", DAY, "desk", 0))

    def test_no_routes_lead_there(self):
        net = N.without_route("desk", "phone")
        self.assertEqual(spans_at(net, "desk", DAY, "phone").pieces, ())
        self.assertIsNone(span_walk(net, "desk", DAY, "phone", 1))
        self.assertIsNone(changes_span(net, "phone", DAY))
        self.assertIsNone(grows(net, "phone", DAY))
        self.assertEqual(set(spans_at(net, "phone", DAY, "phone").pieces), {("one", 1)})


class SpansTest(unittest.TestCase):

    def check(self, net, p, entry, far=24):
        """Holds all five against all pairs and walks between them."""
        found, steps = plain_pairs(net, p, entry)
        first = span_of(net, p, held(entry))
        reach = plain_reach(steps, 4 * far)
        self.check_shortest(net, p, entry, reach)
        endless = self.check_growth(net, p, entry, max(days for _, days in reach) > 3 * far)
        rng = random.Random(net.text)
        for q in net.programs:
            days = spans_at(net, p, entry, q)
            wanted = {first + more for node, more in reach if found[node][0][0] == q and abs(more) <= far}
            self.assertEqual({day for day in range(first - far, first + far + 1) if day in days}, wanted)
            self.assertTrue(days.least is None or days.least >= 1)
            self.assertFalse(days.goes_down)
            for span in [*rng.sample(range(-2, far), 4), rng.randint(2, GREAT), -GREAT, GREAT]:
                self.check_walk(net, p, entry, q, span, days)
            self.check_after(found, steps, net, p, entry, q, rng.randint(0, 9))
        return endless

    def check_walk(self, net, p, entry, q, span, days):
        blocks = span_walk(net, p, entry, q, span)
        self.assertEqual(blocks is not None, span in days)
        if blocks is not None:
            early = gone(self, net, p, held(entry), 0, blocks)
            late = gone(self, net, p, held(entry), 1, blocks)
            self.assertEqual((early[0], late[0]), (q, q))
            self.assertEqual(span_of(net, p, held(entry)) + late[2] - early[2], span)

    def check_shortest(self, net, p, entry, reach):
        row = changes_span(net, p, entry)
        copies = [copies for (_, days), copies in reach.items() if days != 0]
        self.assertEqual(row is None, not copies)
        if row is not None:
            self.assertIs(type(row), tuple)
            self.assertEqual(len(row), min(copies))
            self.assertTrue(all(route in net.routes for route in zip((p, *row), row)))
            last = plain_along(net, (p, *row), held(entry))[-1]
            self.assertNotEqual(span_of(net, row[-1], last), span_of(net, p, held(entry)))

    def check_growth(self, net, p, entry, endless):
        told = grows(net, p, entry)
        self.assertEqual(told is not None, endless)
        if told is not None:
            way, ring = told
            self.assertTrue(all(route in net.routes for route in zip((p, *way, *ring), (*way, *ring))))
            q = (p, *way)[-1]
            ahead = plain_along(net, (p, *way), held(entry))[-1]
            behind = plain_along(net, (q, *ring), ahead)[-1]
            self.assertEqual(ring[-1], q)
            for end in (0, 1):
                self.assertEqual(plain_state(q, ahead, end), plain_state(q, behind, end))
            self.assertGreater(span_of(net, q, behind), span_of(net, q, ahead))
        return told is not None

    def check_after(self, found, steps, net, p, entry, q, n):
        level = {(0, span_of(net, p, held(entry)))}
        for _ in range(n):
            level = {(goal, span + more) for node, span in level for goal, more, _ in steps[node]}
        spans = [span for node, span in level if found[node][0][0] == q]
        self.assertEqual(span_after(net, p, entry, q, n), (min(spans), max(spans)) if spans else None)

    def test_random_nets(self):
        rng = random.Random(42)
        told = {True: 0, False: 0}
        for turn in range(260):
            net = turning_net(rng) if turn % 2 else random_net(rng)
            told[self.check(net, rng.choice(net.programs), random_entry(rng, net))] += 1
        self.assertGreater(min(told.values()), 15, told)

    def test_rings_that_grow_by_more_than_a_day(self):
        # Two programs in zones ahead and behind: the first point loses a day, the last one gains one.
        net = Net(
            "zone here 0\nzone west -300\nzone east 300\nprogram desk at here\n  day -> fixed 0 1439\n"
            "program phone at west\n  fixed -> day\nprogram tablet at east\n  fixed -> day\n"
            "route desk phone\nroute phone desk\nroute desk tablet\nroute tablet desk"
        )
        self.assertIs(self.check(net, "phone", Entry("day 0 to 0")), True)
        self.assertEqual(span_after(net, "phone", Entry("day 0 to 4"), "phone", 60), (35, 35))
        self.assertEqual(changes_span(net, "phone", Entry("day 0 to 4")), ("desk", "phone"))

    def test_days_of_thirty_digits(self):
        entry = Entry(f"day {-GREAT} to {GREAT}")
        days = spans_at(N, "phone", entry, "phone")
        self.assertEqual((days.least, days.goes_up), (2 * GREAT + 1, True))
        self.assertEqual(span_after(N, "phone", entry, "phone", 60), (2 * GREAT + 31, 2 * GREAT + 31))
        self.check_walk(N, "phone", entry, "phone", 5 * GREAT, days)
        self.check_walk(N, "phone", entry, "phone", 5, days)

    def test_a_single_point_never_changes_its_span(self):
        rng = random.Random(43)
        for _ in range(40):
            net = random_net(rng)
            entry = Entry("fixed 17 to 17")
            p = rng.choice(net.programs)
            if all(net.rule_of(q, "day") == "keep" for q in net.programs):
                self.assertIsNone(changes_span(net, p, entry))
                self.assertIsNone(grows(net, p, entry))
            self.check(net, p, entry)

    def test_a_thousand_pairs_and_one_more(self):
        entry = Entry("float 0 to 1")
        self.assertEqual(len(plain_pairs(THOUSAND, "c", entry)[0]), 1000)
        self.assertEqual(len(plain_pairs(MORE, "c", entry)[0]), 1001)
        for ask in asking(THOUSAND, "c", entry, "b"):
            ask()
        for ask in asking(MORE, "c", entry, "c"):
            with self.assertRaises(TooMany) as caught:
                ask()
            self.assertEqual(caught.exception.most, 1000)

    def test_pairs_may_be_more_than_states(self):
        # Each point has two states at b, but they come together in all ways.
        net = Net(
            "zone a 0\nzone b 720\nprogram p at a\n  day -> fixed 0 719\n  fixed -> float\nprogram q at b\n  float -> fixed\n"
            "route p q\nroute q p"
        )
        self.check(net, "p", Entry("float 0 to 1441"))


class ErrorsTest(unittest.TestCase):

    def test_errors_in_their_order(self):
        for value in no_names() + ["zzz", "here"]:
            for entry, q in ((DAY, "desk"), (EAST, "desk"), (EAST, value)):
                for ask in asking(N, value, entry, q):
                    with self.assertRaises(NoProgram) as caught:
                        ask()
                    self.assertIs(caught.exception.name, value)
            for ask in list(asking(N, value, EAST, "zzz"))[:3]:
                with self.assertRaises(NoProgram) as caught:
                    ask()
                self.assertIs(caught.exception.name, value)
            for entry in (DAY, EAST):
                for ask in list(asking(N, "desk", entry, value))[:3]:
                    with self.assertRaises(NoProgram) as caught:
                        ask()
                    self.assertIs(caught.exception.name, value)
        for ask in [
            *asking(N, "desk", EAST, "phone"), lambda: span_walk(N, "desk", EAST, "desk", None),
            lambda: span_after(N, "desk", EAST, "desk", -1),
        ]:
            with self.assertRaises(NoZone) as caught:
                ask()
            self.assertEqual(caught.exception.name, "east")
        for value in [*odd_values(), -1, 61]:
            for ask in (span_walk, span_after):
                with self.assertRaises(TooMany):
                    ask(MORE, "c", Entry("float 0 to 1"), "c", value)

    def test_numbers(self):
        for value in [*odd_values(), "", "1", 1.0]:
            with self.assertRaises(BadNumber) as caught:
                span_walk(N, "phone", DAY, "desk", value)
            self.assertIs(caught.exception.number, value)
        for value in [*odd_values(), -1, 61, 10 ** 30, -10 ** 5000, "3"]:
            with self.assertRaises(BadNumber) as caught:
                span_after(N, "phone", DAY, "desk", value)
            self.assertIs(caught.exception.number, value)
        self.assertEqual(span_after(N, "phone", DAY, "phone", 60), (31, 31))
        self.assertIsNone(span_walk(N, "phone", DAY, "phone", 0))


if __name__ == "__main__":
    unittest.main()

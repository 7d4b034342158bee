"""Points 12 to 16: walks in blocks, coming home, straying, and rings that are gone round."""

import random
import unittest

from tests.plain import (
    gone, held, plain_along, plain_copy, plain_reach, plain_shown, plain_state, plain_states, random_entry, random_net,
    turning_net,
)
from tests.test_states import DAY, MORE, N, field_of, is_same, wrong_points
from tests.values import no_names, odd_values
from whoseday.entries import Entry
from whoseday.errors import BadNumber, NoRoute, NotARing, TooMany
from whoseday.homes import Settled, comes_home, settles, strays
from whoseday.nets import Net

M = Net(
    "zone here 0\nzone west -300\nprogram a at here\n  fixed -> float\nprogram b at west\n  float -> fixed\n"
    "route a b\nroute b a"
)
FLOAT = Entry("float 600 to 659")


class Homes(unittest.TestCase):

    def assert_home(self, net, p, entry, end, blocks):
        """The walk has a copy or more and leads the point back to what it was, by name."""
        self.assertGreater(len(blocks), 0)
        q, last, days = gone(self, net, p, held(entry), end, blocks)
        self.assertEqual((q, last[:2], last[2 + end]), (p, held(entry)[:2], held(entry)[2 + end]))
        self.assertEqual(days, 0)


class ComesHomeTest(Homes):

    def test_example_by_hand(self):
        self.assertIsNone(comes_home(N, "phone", DAY, 0))
        self.assert_home(N, "phone", DAY, 1, comes_home(N, "phone", DAY, 1))
        self.assertIsNone(comes_home(M, "a", FLOAT, 0))

    def test_no_copies_are_not_enough(self):
        net = Net("zone a 0\nprogram p at a\nprogram q at a\nroute p q")
        self.assertIsNone(comes_home(net, "p", DAY, 0))
        self.assertIsNone(comes_home(net, "q", DAY, 0))
        self.assertEqual(comes_home(net.with_route("q", "q"), "q", DAY, 0), ((("q",), 1),))

    def test_a_zone_of_another_name_is_another_one(self):
        text = "zone a 60\nzone b 60\nprogram p at b\n  zoned -> moved\nroute p p"
        self.assertIsNone(comes_home(Net(text), "p", Entry("zoned 5 to 6 a"), 0))
        self.assert_home(Net(text), "p", Entry("zoned 5 to 6 b"), 0, comes_home(Net(text), "p", Entry("zoned 5 to 6 b"), 0))

    def test_rings_on_either_side_that_make_up_for_one_another(self):
        # Along q the first point loses two days a round, along r it gains three days in two rounds.
        net = Net(
            "zone a 0\nzone b -840\nzone c 720\nzone d 840\nprogram p at a\n  fixed -> day\n  day -> fixed 0 0\n"
            "program q at b\n  fixed -> day\nprogram r at c\n  fixed -> day\nprogram s at d\n  day -> fixed 100 1439\n"
            "route p q\nroute q p\nroute r p\nroute p s\nroute s q\nroute q s\nroute s r\nroute r s"
        )
        for entry in (DAY, Entry("fixed 0 to 5"), Entry("float 3 to 4")):
            for p in net.programs:
                for end in (0, 1):
                    self.check(net, p, entry, end, 30)

    def check(self, net, p, entry, end, bound):
        """Holds comes_home against all walks within a bound of days."""
        found = comes_home(net, p, entry, end)
        if found is not None:
            self.assert_home(net, p, entry, end, found)
        _, steps = plain_states(net, p, held(entry), end)
        reach = plain_reach(steps, bound)
        comes = any((0, -days) == (goal, more) for node, days in reach for goal, more, _ in steps[node])
        self.assertEqual(found is not None, comes)
        return found

    def test_against_all_walks(self):
        rng = random.Random(13)
        kinds = {"none": 0, "once": 0, "turns": 0}
        for _ in range(700):
            net = random_net(rng, programs=rng.randint(1, 5), step=rng.choice([360, 480, 700, 840]), routes=rng.randint(1, 12))
            entry = random_entry(rng, net)
            found = self.check(net, rng.choice(net.programs), entry, rng.randint(0, 1), 25)
            if found is None:
                kinds["none"] += 1
            elif len(found) == 1:
                kinds["once"] += 1
            else:
                kinds["turns"] += 1
        self.assertGreater(min(kinds.values()), 5, kinds)

    def test_nets_that_turn_days_into_moments(self):
        rng = random.Random(16)
        found = [
            self.check(turning_net(rng, rng.randint(2, 5), rng.randint(2, 9)), "p", DAY, rng.randint(0, 1), 25) for _ in range(300)
        ]
        self.assertGreater(len([one for one in found if one is not None and len(one) > 1]), 10)

    def test_long_rings_of_unlike_gains(self):
        # One ring gains 13 minutes a lap, the other one loses 7: 1440 laps each, but the states are shared.
        net = Net(
            "zone a 0\nzone b -65\nzone c 35\nprogram p at a\n  fixed -> float\nprogram q at b\n  float -> fixed\n"
            "program r at c\n  float -> fixed\nroute p q\nroute q p\nroute p r\nroute r p"
        )
        for end in (0, 1):
            self.assert_home(net, "p", FLOAT, end, comes_home(net, "p", FLOAT, end))


class StraysTest(unittest.TestCase):

    def check(self, net, p, entry, end, bound):
        found = strays(net, p, entry, end)
        states, steps = plain_states(net, p, held(entry), end)
        reach = plain_reach(steps, bound)
        lengths = [
            copies for (node, days), copies in reach.items() if states[node][0] == p and (node, days) != (0, 0)
        ]
        if found is None:
            self.assertEqual(lengths, [])
            return found
        self.assertIs(type(found), tuple)
        self.assertEqual(len(found), min(lengths))
        last = plain_along(net, (p, *found), held(entry))[-1]
        self.assertEqual(found[-1], p)
        self.assertNotEqual((*last[:2], last[2 + end]), (entry.kind, entry.zone, held(entry)[2 + end]))
        self.assertLessEqual(len(found), 2 * len(states))
        return found

    def test_examples_by_hand(self):
        self.assertEqual(strays(N, "phone", DAY, 0), ("desk", "phone"))
        self.assertIsNone(strays(N, "phone", DAY, 1))
        self.assertEqual(strays(M, "a", FLOAT, 0), ("b", "a"))

    def test_an_entry_that_never_comes_back(self):
        self.assertIsNone(strays(M.without_route("b", "a"), "a", FLOAT, 0))
        self.assertIsNone(strays(M.without_program("a"), "b", FLOAT, 0))

    def test_against_all_walks(self):
        rng = random.Random(14)
        lengths = set()
        for _ in range(400):
            net = random_net(rng, programs=rng.randint(1, 5), step=rng.choice([360, 480, 840]), routes=rng.randint(1, 12))
            entry = random_entry(rng, net)
            found = self.check(net, rng.choice(net.programs), entry, rng.randint(0, 1), 25)
            lengths.add(None if found is None else len(found))
        self.assertTrue({None, 1, 2, 3, 4} <= lengths, lengths)

    def test_nets_that_turn_days_into_moments(self):
        rng = random.Random(17)
        for _ in range(500):
            net = turning_net(rng, rng.randint(2, 6), rng.randint(2, 9))
            self.check(net, "p", DAY, rng.randint(0, 1), 25)

    def test_home_by_days_that_make_up_for_one_another(self):
        # Each round moves a day forth and back; only the ring between q and r moves the days for good.
        net = Net(
            "zone a 0\nzone b -300\nzone c 300\nprogram p at a\n  fixed -> day\n  day -> fixed 0 1439\n"
            "program q at b\n  fixed -> day\nprogram r at a\n  day -> fixed 0 1439\nprogram s at c\n  fixed -> day\n"
            "program t at a\n  day -> fixed 1439 1439\n"
            "route p q\nroute q r\nroute r q\nroute q t\nroute t s\nroute s p"
        )
        for end in (0, 1):
            self.check(net, "p", DAY, end, 12)


class SettlesTest(unittest.TestCase):

    def check(self, net, p, row, ring, entry, end):
        """Holds what is told against laps that are gone through by plain copies."""
        settled = settles(net, p, row, ring, entry, end)
        self.assertIsInstance(settled, Settled)
        walk = (p, *row)
        at = plain_along(net, walk, held(entry))[-1]
        first = plain_shown(net, p, held(entry))[end]
        seen, days, shown = [], [], []
        for _ in range(settled.laps + 2 * settled.period + 3):
            seen.append(plain_state(walk[-1], at, end))
            days.append(plain_shown(net, walk[-1], at)[end] - first)
            told = plain_along(net, (walk[-1], *ring), at)
            shown.append([plain_shown(net, q, one)[end] for q, one in zip(ring, told[1:])])
            at = told[-1]
        laps = min(n for n in range(len(seen)) if seen[n] in seen[n + 1:])
        period = seen.index(seen[laps], laps + 1) - laps
        gain = days[laps + period] - days[laps]
        self.assertEqual((settled.laps, settled.period, settled.gain), (laps, period, gain))
        self.assertEqual([settled.days_after(n) for n in range(len(days))], days)
        for n in (10 ** 30, 10 ** 45 + 17, laps + 1000 * period + 1):
            turns, rest = divmod(n - laps, period)
            self.assertEqual(settled.days_after(n), days[laps + rest] + turns * gain)
        still = len({day for lap in shown[laps:] for day in lap}) == 1
        self.assertIs(settled.still, still)
        return settled

    def test_examples_by_hand(self):
        for end, told, far in [(0, (0, 1, -1, False), -1000), (1, (0, 1, 0, True), 0)]:
            settled = self.check(N, "phone", (), ("desk", "phone"), DAY, end)
            self.assertEqual((settled.laps, settled.period, settled.gain, settled.still), told)
            self.assertEqual(settled.days_after(1000), far)
        settled = self.check(M, "a", (), ("b", "a"), FLOAT, 0)
        self.assertEqual((settled.laps, settled.period, settled.gain, settled.days_after(3)), (0, 24, 5, 1))
        self.assertIs(settled.still, False)

    def test_attributes_are_set_on_the_object(self):
        found = vars(settles(N, "phone", (), ("desk", "phone"), DAY, 0))
        for name in ("laps", "period", "gain"):
            self.assertIn(name, found)
            self.assertIs(type(found[name]), int)

    def test_against_laps_gone_through(self):
        rng = random.Random(15)
        told = set()
        for _ in range(400):
            net = random_net(rng, programs=3, step=rng.choice([60, 360, 480, 840]), routes=9)
            entry = random_entry(rng, net)
            p = rng.choice(net.programs)
            row = [rng.choice(net.programs) for _ in range(rng.randint(0, 3))]
            ring = [rng.choice(net.programs) for _ in range(rng.randint(0, 4))] + [([p] + row)[-1]]
            settled = self.check(net, p, row, ring, entry, rng.randint(0, 1))
            told.add((settled.laps > 0, settled.period > 1, (settled.gain > 0) - (settled.gain < 0), settled.still))
        self.assertTrue({one[:3] for one in told} >= {
            (late, long, sign) for late in (False, True) for long in (False, True) for sign in (-1, 0, 1)
            if (late, long, sign) != (True, True, 0)
        } - {(False, True, 0), (True, True, 0)}, told)
        self.assertIn((False, False, 0, False), told)

    def test_still_behind_each_single_copy(self):
        # The float shows on day 1 at p and q, but the fixed moment ahead of midnight at r.
        net = Net(
            "zone a 0\nzone b -60\nprogram p at a\n  fixed -> float\nprogram q at a\n  float -> fixed\nprogram r at b\n"
            "route p q\nroute q p\nroute q r\nroute r p"
        )
        entry = Entry("float 1440 to 1500")
        self.assertIs(self.check(net, "p", (), ("q", "p"), entry, 0).still, True)
        self.assertIs(self.check(net, "p", (), ("q", "r", "p"), entry, 0).still, False)
        self.assertIs(self.check(net, "p", (), ("q", "r", "p"), entry, 1).still, True)
        # Only the copies from some lap on matter.
        self.assertIs(self.check(net, "p", ("q", "r"), ("p", "q", "p", "q", "r"), entry, 0).still, False)
        self.assertIs(self.check(net, "p", ("q", "r", "p"), ("q", "p"), entry, 0).still, True)

    def test_a_day_that_is_lost_once(self):
        net = Net(
            "zone a 0\nzone b -300\nprogram p at b\n  fixed -> float\n  float -> day\nprogram q at a\n"
            "route p q\nroute q p\nroute q q"
        )
        settled = self.check(net, "q", (), ("p", "q"), Entry("fixed 100 to 400"), 0)
        self.assertEqual((settled.laps, settled.period, settled.gain, settled.still), (2, 1, 0, True))
        self.assertEqual([settled.days_after(n) for n in range(4)], [0, -1, -1, -1])

    def test_laps_and_period_on_both_sides_of_1000(self):
        text = "zone a 0\nzone b {}\nprogram p at a\n  fixed -> float\nprogram q at b\n  float -> fixed\nroute p q\nroute q p"
        settled = settles(Net(text.format(3)), "p", (), ("q", "p"), FLOAT, 0)
        self.assertEqual((settled.laps, settled.period, settled.gain), (0, 480, -1))
        # One lap alone has 720 states of p, and two copies more each: no matter how many states are reached.
        settled = settles(Net(text.format(2)), "p", ("q",), ("p", "q"), FLOAT, 0)
        self.assertEqual((settled.laps, settled.period, settled.gain), (0, 720, -1))
        for end in (0, 1):
            with self.assertRaises(TooMany) as caught:
                settles(Net(text.format(1)), "p", (), ("q", "p"), FLOAT, end)
            self.assertEqual(caught.exception.most, 1000)
            self.assertEqual(settles(Net(text.format(1)), "p", (), ("q", "p") * 3, FLOAT, end).period, 480)

    def test_laps_are_counted_for_the_bound(self):
        # The walk from c to p along r is no part of the ring: its laps are none.
        with self.assertRaises(TooMany) as caught:
            comes_home(MORE, "c", FLOAT, 0)
        self.assertEqual(caught.exception.most, 1000)
        settled = settles(MORE, "c", ("d", "c", "a"), ("b", "a"), FLOAT, 0)
        self.assertEqual((settled.laps, settled.period), (0, 480))

    def test_numbers_of_laps(self):
        settled = settles(M, "a", (), ("b", "a"), FLOAT, 0)
        self.assertEqual(settled.days_after(0), 0)
        self.assertEqual(settled.days_after(24 * 10 ** 60), 5 * 10 ** 60)
        for value in odd_values() + [-1, -10 ** 30, "0", ""]:
            with self.assertRaises(BadNumber) as caught:
                settled.days_after(value)
            self.assertIs(caught.exception.number, value)

    def test_errors_of_the_point_come_first(self):
        for args, kind, field in wrong_points(N):
            p, entry, end = args
            for row, ring in [((), ()), (("desk",), ("phone", "desk")), ((None,), (5,))]:
                with self.assertRaises(kind) as caught:
                    settles(N, p, row, ring, entry, end)
                self.assertTrue(is_same(field_of(caught.exception), field))

    def test_no_route(self):
        for value in no_names() + ["zzz", "phone"]:
            for row, ring, index in [
                ((value,), (), 0), ((), (value,), 0), ((), ["desk", "phone", value], 2), (["desk", "phone"], [value, "phone"], 2),
                (("desk", "phone"), ("desk", "phone", value, value), 4),
            ]:
                with self.assertRaises(NoRoute) as caught:
                    settles(N, "phone", row, ring, DAY, 0)
                self.assertEqual(caught.exception.index, index)

    def test_not_a_ring(self):
        for row, ring in [((), ()), ((), ["desk"]), (("desk",), ("phone",)), (["desk", "phone"], []), (("desk",), ["phone", "desk", "phone"])]:
            with self.assertRaises(NotARing) as caught:
                settles(N, "phone", row, ring, DAY, 0)
            self.assertEqual(caught.exception.names, tuple(ring))
            self.assertIs(type(caught.exception.names), tuple)

    def test_rows_are_left_as_they_were(self):
        row, ring = ["desk"], ["phone", "desk"]
        settles(N, "phone", row, ring, DAY, 0)
        self.assertEqual((row, ring), (["desk"], ["phone", "desk"]))

    def test_plain_copies_agree_with_one_lap(self):
        self.assertEqual(plain_copy(N, "desk", held(DAY)), ("fixed", None, 14400, 15839))


if __name__ == "__main__":
    unittest.main()

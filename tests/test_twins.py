"""Points 34 to 36: walks at whose end two nets show a point on unlike days, and by how many days."""

import random
import time
import unittest

from tests.plain import (
    KINDS, held, plain_along, plain_copy, plain_shown, plain_state, plain_states, random_entry, random_net, random_rule, turning_net,
)
from tests.test_states import is_same
from tests.values import no_names, odd_values
from whoseday.entries import Entry
from whoseday.errors import BadNumber, NoProgram, NoZone, OtherPrograms, OtherRoutes, TooMany
from whoseday.nets import Net
from whoseday.pieces import Days
from whoseday.twins import apart, parting_walk

HEAD = "zone home 0\nzone west -300\n"
TAIL = "\nroute a b\nroute b a"
M = Net(HEAD + "program a at home\n  fixed -> float\nprogram b at west\n  float -> fixed" + TAIL)
K = Net(HEAD + "program a at home\nprogram b at west" + TAIL)
FLOAT = Entry("float 600 to 659")
DAY = Entry("day 10 to 10")


# A ring of 4 programs and 20 laps leads to one of 4 programs and 480 laps.
TWO_THOUSAND = Net(
    "zone here 0\nzone far 72\nzone near 3\n"
    "program a at here\nprogram b at here\nprogram c at here\n  fixed -> float\nprogram d at far\n  float -> fixed\n"
    "program e at here\nprogram f at here\nprogram g at here\n  fixed -> float\nprogram h at near\n  float -> fixed\n"
    "program i at here\n  float -> day\n"
    "route a b\nroute b d\nroute d c\nroute c a\nroute a e\nroute e f\nroute f h\nroute h g\nroute g e"
)
ONE_MORE = TWO_THOUSAND.with_route("e", "i")
# A ring of 12 programs and 180 laps, each of which makes a clock 8 minutes less.
LINE = Net(
    "zone here 0\nzone there 8\nzone beside 1\n"
    + "\n".join(f"program {name} at here" for name in "abcdefghij")
    + "\nprogram k at here\n  fixed -> float\nprogram l at there\n  float -> fixed\n"
    + "\n".join(f"route {one} {other}" for one, other in zip("abcdefghijkl", "bcdefghijkla"))
)


def variant(rng, net):
    """A net with the same programs and routes, and with other rules, homes and offsets."""
    other = net
    for _ in range(rng.randint(0, 4)):
        p = rng.choice(net.programs)
        kind = rng.choice(KINDS)
        other = rng.choice([
            other.with_rule(p, kind, random_rule(rng, kind)), other.with_home(p, rng.choice(other.zones)),
            other.with_offset(rng.choice(other.zones), 360 * rng.randint(-2, 2)),
        ])
    return other


def plain_pairs(one, other, p, entry, end, bound, copies):
    """All (state, state, days) at the ends of walks of so many copies at most, with the copies to each."""
    mine, yours = held(entry), held(entry)
    start = (p, mine, yours)
    found = {}
    level = {start}
    for n in range(copies + 1):
        later = set()
        for q, here, there in level:
            days = plain_shown(one, q, here)[end] - plain_shown(other, q, there)[end]
            key = (plain_state(q, here, end), plain_state(q, there, end), days)
            if key not in found and abs(days) <= bound:
                found[key] = n
                for goal in one.targets_of(q):
                    later.add((goal, plain_copy(one, goal, here), plain_copy(other, goal, there)))
        level = later
    return found


def wrong_twins(net):
    """Arguments behind two equal nets with the errors that are told for them, first faults first."""
    east = Entry("zoned 0 to 0 east")
    p = net.programs[0]
    for value in no_names() + ["zzz", net.zones[0]]:
        for entry, end in ((DAY, 0), (east, 0), (east, value), (DAY, 2)):
            yield (value, entry, end), NoProgram, value
    for end in [0, 1, *odd_values(), 2, -1, "0"]:
        yield (p, east, end), NoZone, "east"
    for end in [*odd_values(), 2, -1, 10 ** 30, "0", "1", ""]:
        yield (p, DAY, end), BadNumber, end


class PartingTest(unittest.TestCase):

    def test_example_by_hand(self):
        self.assertEqual(parting_walk(M, K, "a", FLOAT, 0), ("b", "a", "b", "a", "b", "a"))
        self.assertIsNone(parting_walk(K, K, "a", FLOAT, 0))

    def test_a_net_compared_with_itself(self):
        rng = random.Random(34)
        for _ in range(60):
            net = random_net(rng)
            entry = random_entry(rng, net)
            for end in (0, 1):
                p = rng.choice(net.programs)
                self.assertIsNone(parting_walk(net, Net(net.text), p, entry, end))
                for q in net.programs:
                    self.assertIn(set(apart(net, net, p, entry, q, end).pieces), (set(), {("one", 0)}))

    def test_nets_that_part_at_once(self):
        fixed = Entry("fixed 60 to 1500")
        early = M.with_offset("home", -61)
        self.assertEqual(parting_walk(M, early, "a", fixed, 0), ())
        self.assertIsNone(parting_walk(M, early.with_offset("west", -361), "a", FLOAT, 0))
        self.assertEqual(parting_walk(M, early, "a", fixed, 1), ())
        self.assertEqual(parting_walk(early, M, "a", fixed, 0), ())
        self.assertEqual(len(parting_walk(M, M.with_offset("home", -10), "a", Entry("fixed 10 to 10"), 0)), 50)
        zoned = Entry("zoned 0 to 0 west")
        self.assertEqual(parting_walk(M, M.with_offset("west", 1), "a", zoned, 0), ())

    def test_a_day_never_parts_at_once(self):
        net = N_OF("fixed 0 1439")
        self.assertEqual(parting_walk(net, N_OF("fixed 300 1439"), "b", DAY, 0), ("a", "b"))
        self.assertIsNone(parting_walk(net, N_OF("fixed 300 1439"), "b", DAY, 1))
        self.assertEqual(parting_walk(net, N_OF("keep"), "b", DAY, 0), ("a", "b"))

    def test_other_zones_homes_and_rules(self):
        one = Net("zone x 0\nprogram a at x\nprogram b at x\n  float -> day\nroute a b")
        other = Net("zone y 5\nzone x -7\nprogram a at y\nprogram b at x\n  float -> zoned\nroute a b")
        self.assertIsNone(parting_walk(one, other, "a", FLOAT, 0))
        self.assertEqual(parting_walk(one, other, "a", Entry("fixed 6 to 9"), 0), ("b",))
        self.assertEqual(parting_walk(one, other, "a", Entry("fixed 1437 to 1438"), 1), ())
        self.assertEqual(apart(one, other, "a", Entry("fixed 1437 to 1438"), "a", 1).pieces, (("one", -1),))

    def test_against_pairs_gone_through_plainly(self):
        rng = random.Random(35)
        told = {"never": 0, "walk": 0}
        for turn in range(400):
            net = turning_net(rng) if turn % 2 else random_net(rng, step=rng.choice([180, 360]))
            other = variant(rng, net)
            entry, p, end = random_entry(rng, net), rng.choice(net.programs), rng.randint(0, 1)
            found = plain_pairs(net, other, p, entry, end, 0, 60)
            row = parting_walk(net, other, p, entry, end)
            if row is None:
                told["never"] += 1
                pairs = plain_pairs(net, other, p, entry, end, 9, 60)
                self.assertTrue(all(days == 0 for _, _, days in pairs))
                continue
            told["walk"] += 1
            self.assertIs(type(row), tuple)
            here, there = (plain_along(one, (p, *row), held(entry)) for one in (net, other))
            for place, q in enumerate((p, *row)):
                days = plain_shown(net, q, here[place])[end] - plain_shown(other, q, there[place])[end]
                self.assertEqual(days != 0, place == len(row))
            for route in zip((p, *row), row):
                self.assertIn(route, net.routes)
            # No pair with fewer copies parts by one copy more.
            for (state, twin, _), copies in found.items():
                if copies + 1 < len(row):
                    self.assertFalse(self.parts(net, other, state, twin, end))
        self.assertTrue(min(told.values()) > 40, told)

    def parts(self, net, other, state, twin, end):
        for goal in net.targets_of(state[0]):
            moved = []
            for one, (q, kind, zone, rest) in ((net, state), (other, twin)):
                here = (kind, zone, rest, rest)
                there = plain_copy(one, goal, here)
                moved.append(plain_shown(one, goal, there)[end] - plain_shown(one, q, here)[end])
            if moved[0] != moved[1]:
                return True
        return False


def N_OF(rule):
    """The net of point 16 with the programs a and b, and with another rule for days."""
    return Net(HEAD + f"program a at home\n  day -> {rule}\nprogram b at west\n  fixed -> day" + TAIL)


class ApartTest(unittest.TestCase):

    def test_example_by_hand(self):
        for q in ("a", "b"):
            days = apart(M, K, "a", FLOAT, q, 0)
            self.assertIsInstance(days, Days)
            self.assertTrue(Days.same(days, Days([("up", 0, 1)]), -50, 5000))
            self.assertEqual((days.least, days.greatest, 10 ** 30 in days), (0, None, True))
            back = apart(K, M, "a", FLOAT, q, 0)
            self.assertTrue(Days.same(back, Days([("down", 0, 1)]), -5000, 50))

    def test_no_routes_lead_there(self):
        lone = Net(K.text.replace("\nroute b a", ""))
        self.assertEqual(apart(lone, lone, "b", DAY, "a", 0).pieces, ())
        self.assertEqual(set(apart(lone, lone, "b", DAY, "b", 0).pieces), {("one", 0)})

    def test_days_of_thirty_digits(self):
        days = apart(N_OF("fixed 0 1439"), N_OF("fixed 300 1439"), "b", Entry(f"day {-10 ** 29} to {10 ** 29}"), "b", 0)
        self.assertTrue(Days.same(days, Days([("down", 0, 1)]), -5000, 50))
        self.assertIn(-10 ** 30, days)

    def test_both_nets_move_the_days(self):
        # The one net loses a day in each round, the other one gains a day: they part by two.
        ahead = Net(HEAD.replace("-300", "300") + N_OF("fixed 1439 1439").text.split("\n", 2)[2])
        days = apart(N_OF("fixed 0 1439"), ahead, "b", DAY, "b", 0)
        self.assertTrue(Days.same(days, Days([("down", 0, 2)]), -500, 50))

    def test_against_pairs_gone_through_plainly(self):
        rng = random.Random(36)
        kinds = {"up": 0, "down": 0, "ends": 0}
        for turn in range(300):
            net = turning_net(rng) if turn % 2 else random_net(rng, step=rng.choice([180, 360]))
            other = variant(rng, net)
            entry, p, end = random_entry(rng, net), rng.choice(net.programs), rng.randint(0, 1)
            found = plain_pairs(net, other, p, entry, end, 30, 400)
            for q in net.programs:
                days = apart(net, other, p, entry, q, end)
                wanted = {many for state, _, many in found if state[0] == q and abs(many) <= 10}
                self.assertEqual({many for many in range(-10, 11) if many in days}, wanted)
                kinds["up"] += days.goes_up
                kinds["down"] += days.goes_down
                kinds["ends"] += not days.goes_up and not days.goes_down
        self.assertTrue(min(kinds.values()) > 20, kinds)


def ring(minutes, *lines):
    """A net whose programs desk and phone copy from each other; each round makes a clock so many minutes later.

    More lines are those of pad and of programs behind it, and of routes.
    """
    return Net("\n".join([
        "zone here 0", f"zone west {-minutes}", "zone far -36", "program desk at here", "  fixed -> float", "program phone at west",
        "  float -> fixed", "program pad at here", *[line for line in lines if not line.startswith("route")],
        "route desk phone", "route phone desk", *[line for line in lines if line.startswith("route")],
    ]))


def still(net):
    """The net in which all programs keep all kinds."""
    return Net("\n".join(line for line in net.text.split("\n") if not line.startswith(" ")))


def seconds(ask):
    """The least time that a question takes of three times."""
    times = []
    for _ in range(3):
        start = time.perf_counter()
        ask()
        times.append(time.perf_counter() - start)
    return min(times)


class RingsTest(unittest.TestCase):

    def check(self, one, other, p, entry, end, near=3):
        found = plain_pairs(one, other, p, entry, end, near + 1, 20000)
        for q in one.programs:
            days = apart(one, other, p, entry, q, end)
            wanted = {many for state, _, many in found if state[0] == q}
            self.assertEqual({many for many in range(-near - 1, near + 2) if many in days}, wanted)
            self.assertEqual((days.goes_down, days.goes_up), (-near - 1 in wanted, near + 1 in wanted))

    def test_programs_in_the_ring_and_one_that_is_not_reached(self):
        for minutes in (2, 3, -2, 45):
            net = ring(minutes)
            for one, other in ((net, still(net)), (still(net), net), (net, net)):
                self.check(one, other, "desk", FLOAT, 1)
            up = apart(net, still(net), "phone", FLOAT, "desk", 0)
            self.assertTrue(Days.same(up, Days([("up" if minutes > 0 else "down", 0, 1)]), -5000, 5000))
            self.assertEqual(apart(net, still(net), "desk", FLOAT, "pad", 1).pieces, ())
            self.assertEqual(apart(net, net, "desk", FLOAT, "pad", 0).pieces, ())
            self.assertEqual(set(apart(net, still(net), "pad", FLOAT, "pad", 0).pieces), {("one", 0)})
        self.check(ring(45), ring(-45), "desk", FLOAT, 0)
        self.check(ring(45), ring(90), "phone", Entry("fixed 0 to 1439"), 1)

    def test_programs_behind_the_ring(self):
        for minutes, *rules in ((3,), (-3,), (2, "  float -> day"), (-2, "  float -> day", "  day -> float 0 1439")):
            net = ring(minutes, *rules, "route desk pad", "route pad pad")
            self.check(net, still(net), "desk", FLOAT, 0)
            self.check(still(net), net, "phone", Entry("fixed 1430 to 1450"), 1)
            days = apart(net, still(net), "desk", FLOAT, "pad", 0)
            self.assertEqual((days.goes_up, days.goes_down, 10 ** 30 in days), (minutes > 0, minutes < 0, minutes > 0))

    def test_a_ring_with_a_ring_behind_it(self):
        # The first ring makes a clock later, the second one earlier, so all differences come up behind both.
        net = ring(45, "program near at west", "  fixed -> float", "program away at here", "  float -> fixed",
                   "route desk away", "route away near", "route near away")
        found = {q: apart(net, still(net), "desk", FLOAT, q, 0) for q in net.programs}
        self.assertEqual([(days.goes_down, days.goes_up) for days in found.values()],
                         [(False, True), (False, True), (False, False), (True, True), (True, True)])
        for q in ("near", "away"):
            self.assertTrue(Days.same(found[q], Days([("every", 0, 1)]), -5000, 5000))

    def test_a_ring_with_more_pairs_than_allowed(self):
        # One minute in each round: 1,440 rounds of two copies.
        for one, other in ((ring(1), still(ring(1))), (ring(1), ring(1)), (ring(-1), ring(1)), (ring(2), ring(-3))):
            for q in ("desk", "phone", "pad"):
                with self.assertRaises(TooMany) as caught:
                    apart(one, other, "desk", FLOAT, q, 1)
                self.assertEqual(caught.exception.most, 2000)

    def test_rings_of_two_thousand_pairs_and_one_more(self):
        # 2 * 40 pairs in the ring of start and turn, 2 * 480 in that of desk and phone, 480 each at pad and tail.
        net = ring(3, "program start at here", "  fixed -> float", "program turn at far", "  float -> fixed",
                   "program tail at here", "program last at here", "  float -> day",
                   "route start turn", "route turn start", "route start desk", "route desk pad", "route desk tail")
        # The other net has one state for each program, so there are as many pairs as the net has states.
        self.assertEqual(len(plain_states(net, "start", held(FLOAT), 0)[0]), 2000)
        for q in net.programs:
            days = apart(net, still(net), "start", FLOAT, q, 0)
            self.assertEqual((days.goes_up, 0 in days, -1 in days), (q != "last", q != "last", False))
        for start in ("start", "desk", "tail"):
            greater = net.with_route(start, "last")
            self.assertEqual(len(plain_states(greater, "start", held(FLOAT), 0)[0]), 2001)
            for q in ("start", "pad", "last"):
                with self.assertRaises(TooMany) as caught:
                    apart(greater, still(greater), "start", FLOAT, q, 0)
                self.assertEqual(caught.exception.most, 2000)

    def test_rings_are_told_soon(self):
        one = Net(
            "zone here 0\nzone west -2\nprogram desk at here\n  fixed -> float\nprogram phone at west\n"
            "  float -> fixed\nprogram pad at here\nroute desk phone\nroute phone desk"
        )
        for q in ("pad", "desk", "phone"):
            for mine, yours in ((one, still(one)), (still(one), one), (one, one)):
                self.assertLess(seconds(lambda: apart(mine, yours, "desk", Entry("float 600 to 659"), q, 1)), 0.2)


class ErrorsTest(unittest.TestCase):

    def test_other_programs_and_routes_come_first(self):
        turned = Net(HEAD + "program b at west\nprogram a at home" + TAIL)
        more = K.with_program("c", "home")
        swapped = Net(K.text.replace(TAIL, "\nroute b a\nroute a b"))
        fewer = K.without_route("b", "a")
        for value, entry, end in (("a", FLOAT, 0), (5, Entry("zoned 0 to 0 east"), None)):
            for one, other, error in [
                (K, turned, OtherPrograms), (K, more, OtherPrograms), (more, K, OtherPrograms),
                (turned, fewer, OtherPrograms), (K, swapped, OtherRoutes), (K, fewer, OtherRoutes), (fewer, K, OtherRoutes),
            ]:
                with self.assertRaises(error):
                    parting_walk(one, other, value, entry, end)
                with self.assertRaises(error):
                    apart(one, other, value, entry, value, end)

    def test_wrong_arguments(self):
        for (p, entry, end), error, value in wrong_twins(K):
            for q in ("a", "zzz"):
                asks = [lambda: parting_walk(K, M, p, entry, end)]
                if q == "a" or error is NoProgram:
                    asks.append(lambda: apart(K, M, p, entry, q, end))
                for ask in asks:
                    with self.assertRaises(error) as caught:
                        ask()
                    self.assertTrue(is_same(list(vars(caught.exception).values())[0], value))
        for value in no_names() + ["zzz"]:
            for entry, end in ((FLOAT, 0), (Entry("zoned 0 to 0 east"), 2)):
                with self.assertRaises(NoProgram) as caught:
                    apart(K, M, "a", entry, value, end)
                self.assertIs(caught.exception.name, value)

    def test_a_zone_that_one_net_lacks(self):
        east = K.with_zone("east", 0)
        for one, other in ((K, east), (east, K)):
            for end in (0, 1, 2, None):
                for ask in (lambda: parting_walk(one, other, "a", Entry("zoned 0 to 0 east"), end),
                            lambda: apart(one, other, "a", Entry("zoned 0 to 0 east"), "a", end)):
                    with self.assertRaises(NoZone) as caught:
                        ask()
                    self.assertEqual(caught.exception.name, "east")
        self.assertIsNone(parting_walk(east, east, "a", Entry("zoned 0 to 0 east"), 0))

    def test_two_thousand_pairs_and_one_more(self):
        entry = Entry("float 0 to 0")
        self.assertEqual(len(plain_pairs(TWO_THOUSAND, TWO_THOUSAND, "a", entry, 0, 0, 5000)), 2000)
        self.assertIsNone(parting_walk(TWO_THOUSAND, TWO_THOUSAND, "a", entry, 0))
        self.assertEqual(apart(TWO_THOUSAND, TWO_THOUSAND, "a", entry, "h", 1).pieces, (("one", 0),))
        for q in "ai":
            for ask in (lambda: parting_walk(ONE_MORE, ONE_MORE, "a", entry, 0), lambda: apart(ONE_MORE, ONE_MORE, "a", entry, q, 0)):
                with self.assertRaises(TooMany) as caught:
                    ask()
                self.assertEqual(caught.exception.most, 2000)

    def test_differences_are_not_counted(self):
        other = TWO_THOUSAND.with_rule("d", "float", "keep").with_rule("h", "float", "keep")
        for one in (TWO_THOUSAND, other):
            days = apart(TWO_THOUSAND, one, "a", Entry("float 0 to 0"), "h", 0)
            self.assertEqual((0 in days, days.goes_down), (True, one == other))

    def test_only_pairs_ahead_of_the_parting_are_counted(self):
        # At lap 166 the clock is at the minute -1 of one net, so i parts behind 2,000 copies, j behind 2,001.
        entry = Entry("float 1327 to 1327")
        row = parting_walk(LINE, LINE.with_home("i", "beside"), "a", entry, 0)
        self.assertEqual(row, tuple("bcdefghijkla" * 166 + "bcdefghi"))
        for other in (LINE.with_home("j", "beside"), LINE):
            with self.assertRaises(TooMany) as caught:
                parting_walk(LINE, other, "a", entry, 0)
            self.assertEqual(caught.exception.most, 2000)
        with self.assertRaises(TooMany):
            apart(LINE, LINE.with_home("i", "beside"), "a", entry, "a", 0)
        late = Entry("float 10000 to 10000")
        self.assertEqual(parting_walk(ONE_MORE, ONE_MORE.with_offset("far", -72), "a", Entry("float 1439 to 1439"), 0), tuple("bdc"))
        self.assertEqual(len(parting_walk(LINE, LINE.with_offset("there", -8), "a", late, 1)), 12 * 10)


if __name__ == "__main__":
    unittest.main()

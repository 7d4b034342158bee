"""Points 40 and 41: which offsets the zones can have, told back by what was seen."""

import random
import unittest

from tests.plain import held, plain_along, plain_clock, plain_shown, random_entry, random_net
from tests.test_states import field_of, is_same
from tests.test_twins import FLOAT, M
from tests.values import no_names, odd_values
from whoseday.entries import Entry
from whoseday.errors import BadLook, BadNumber, NoProgram, NoRoute, NotTogether, NoZone, TooMany, TooWide
from whoseday.nets import Net
from whoseday.told import Told, told_back

WEST = (Entry("fixed 900 to 959"), ("b",), 0, "clock", 600)
HOME = (Entry("fixed 1500 to 1559"), ("a",), 0, "day", 0)
LATE = (Entry("fixed 900 to 959"), ("b",), 0, "day", 1)
EAST = Entry("zoned 0 to 0 east")
GREAT = 10 ** 30


def with_offsets(net, offsets):
    for zone, offset in offsets.items():
        net = net.with_offset(zone, offset)
    return net


def comes_out(net, look, offsets):
    """Tells whether a look comes out as it was seen with these offsets, copy by copy."""
    entry, walk, end, what, number = look
    other = with_offsets(net, offsets)
    last = plain_along(other, walk, held(entry))[-1]
    if what == "day":
        return plain_shown(other, walk[-1], last)[end] == number
    return plain_clock(other, walk[-1], last)[end] == number


def factors(net, walk, entry, end):
    """The factors of the offsets in the clock at the end, told by clocks alone; None with roundings."""
    entries = plain_along(net, walk, held(entry))
    if any(late[0] == "day" and early[0] != "day" for early, late in zip(entries, entries[1:])):
        return None
    if entries[-1][0] == "day":
        return []
    found = []
    for zone in net.zones:
        clocks = []
        for offset in (0, 1):
            other = net.with_offset(zone, offset)
            clocks.append(plain_clock(other, walk[-1], plain_along(other, walk, held(entry))[-1])[end])
        found.append(clocks[1] - clocks[0])
    return [one for one in found if one != 0]


def is_narrow(net, walk, entry, end):
    found = factors(net, walk, entry, end)
    return found is not None and sorted(found) in ([], [-1], [1], [-1, 1])


class ExampleTest(unittest.TestCase):

    def test_example_by_hand(self):
        told = told_back(M, [WEST, HOME])
        self.assertIsInstance(told, Told)
        self.assertEqual((told.lowest("west"), told.highest("west")), (-300, -300))
        self.assertEqual((told.lowest("home"), told.highest("home")), (-840, -61))
        self.assertEqual(told.between("home", "west"), (-540, 239))
        self.assertEqual(told.between("west", "home"), (-239, 540))
        self.assertEqual(told.days(FLOAT, ("a", "b", "a"), 0), (0, 0))
        with self.assertRaises(NotTogether) as caught:
            told_back(M, [WEST, HOME, LATE])
        self.assertEqual(caught.exception.looks, (0, 2))

    def test_no_looks(self):
        for looks in ([], ()):
            told = told_back(M, looks)
            self.assertEqual([told.lowest("home"), told.highest("home")], [-840, 840])
            self.assertEqual(told.between("home", "west"), (-1680, 1680))
            self.assertEqual(told.between("home", "home"), (0, 0))
            self.assertEqual(told.days(Entry("fixed 840 to 840"), ("a",), 0), (0, 1))
            self.assertEqual(told.days(Entry("fixed 600 to 600"), ("a",), 1), (-1, 1))
        self.assertEqual(told_back(Net(""), []).some(), {})

    def test_the_offsets_of_the_net_are_left_aside(self):
        for offset in (-840, -300, 0, 840):
            told = told_back(M.with_offset("west", offset), [WEST, HOME])
            self.assertEqual((told.lowest("west"), told.highest("west")), (-300, -300))
            self.assertEqual(told.days(Entry("fixed 299 to 300"), ("b",), 0), (-1, -1))
            self.assertEqual(told.days(Entry("fixed 299 to 300"), ("b",), 1), (0, 0))


class ToldTest(unittest.TestCase):

    def test_farthest_offsets(self):
        for number in (-840, 840):
            told = told_back(M, [(Entry("fixed 0 to 0"), ("a",), 0, "clock", number)])
            self.assertEqual((told.lowest("home"), told.highest("home")), (number, number))
            with self.assertRaises(NotTogether) as caught:
                told_back(M, [HOME, (Entry("fixed 0 to 0"), ("a",), 0, "clock", number + number // 840)])
            self.assertEqual(caught.exception.looks, (1,))

    def test_all_that_fits_is_new_each_time(self):
        told = told_back(M, [WEST])
        first = told.some()
        first["west"] = 5
        self.assertEqual(told.some()["west"], -300)
        self.assertEqual(list(told.some()), ["home", "west"])

    def test_looks_at_one_offset_less_another_one(self):
        # b shows a moment of a by its own offset, and a clock that is held as a clock stays.
        ring = (Entry("float 600 to 700"), ("a", "b", "a"), 0, "clock", 650)
        told = told_back(M, [ring])
        self.assertEqual(told.between("home", "west"), (50, 50))
        self.assertEqual((told.lowest("home"), told.highest("west")), (-790, 790))
        self.assertEqual(told.days(Entry("float 1390 to 1391"), ("a", "b", "a"), 0), (1, 1))
        self.assertEqual(told.days(Entry("float 1389 to 1391"), ["a", "b", "a"], 0), (0, 0))
        both = told_back(M, [ring, (Entry("float 0 to 0"), ("a", "b"), 1, "day", 0), WEST])
        self.assertEqual(both.some(), {"home": -250, "west": -300})
        with self.assertRaises(NotTogether) as caught:
            told_back(M, [ring, WEST, (Entry("fixed 0 to 0"), ("a",), 0, "clock", -251)])
        self.assertEqual(caught.exception.looks, (0, 1, 2))

    def test_days_that_are_kept_and_clocks_without_offsets(self):
        day = Entry("day 3 to 5")
        for number, end in ((3, 0), (5, 1)):
            told_back(M, [(day, ("a", "b"), end, "day", number)])
            for wrong in (number - 1, number + 1, GREAT):
                with self.assertRaises(NotTogether) as caught:
                    told_back(M, [WEST, (day, ("a", "b"), end, "day", wrong)])
                self.assertEqual(caught.exception.looks, (1,))
        told = told_back(M, [(FLOAT, ("a", "b"), 1, "clock", 659), (FLOAT, ("a",), 0, "day", 0)])
        self.assertEqual(told.between("home", "west"), (-1680, 1680))
        self.assertEqual(told.days(day, ("b", "a"), 1), (5, 5))
        with self.assertRaises(NotTogether) as caught:
            told_back(M, [(FLOAT, ("a", "b"), 1, "clock", 658)])
        self.assertEqual(caught.exception.looks, (0,))

    def test_days_that_become_clocks(self):
        net = M.with_rule("b", "day", "fixed 100 900").with_rule("a", "day", "zoned 7 8")
        told = told_back(net, [(Entry("day 2 to 4"), ("a", "b", "a"), 1, "clock", 4 * 1440 + 900 + 30)])
        self.assertEqual(told.between("home", "west"), (30, 30))
        self.assertEqual(told.days(Entry("day 2 to 4"), ("a", "b"), 0), (2, 2))
        # 7 minutes of day 2 at home are 23 minutes ahead of midnight in the west.
        self.assertEqual(told.days(Entry("day 2 to 4"), ("b", "a", "b"), 0), (1, 1))

    def test_days_of_thirty_digits(self):
        entry = Entry(f"fixed {GREAT - 1} to {GREAT - 1}")
        told = told_back(M, [(entry, ("a",), 0, "clock", GREAT + 4)])
        self.assertEqual(told.lowest("home"), 5)
        self.assertEqual(told.days(entry, ("a",), 1), ((GREAT + 4) // 1440,) * 2)
        for number in (GREAT * GREAT, -GREAT):
            with self.assertRaises(NotTogether):
                told_back(M, [(entry, ("a",), 0, "day", number)])

    def test_random_looks(self):
        rng = random.Random(41)
        counts = {"told": 0, "not": 0, "wide": 0}
        for _ in range(1500):
            net = random_net(rng, programs=rng.randint(1, 4), zones=rng.randint(1, 4), routes=rng.randint(1, 9), step=60)
            secret = {zone: rng.randint(-840, 840) for zone in net.zones}
            looks = [self.random_look(rng, net, secret) for _ in range(rng.randint(1, 7))]
            first = [index for index, look in enumerate(looks) if not is_narrow(net, look[1], look[0], look[2])]
            if first:
                counts["wide"] += 1
                with self.assertRaises(TooWide) as caught:
                    told_back(net, looks)
                self.assertEqual(caught.exception.index, first[0])
                looks = [look for look in looks if is_narrow(net, look[1], look[0], look[2])]
            try:
                told = told_back(net, looks)
            except NotTogether as error:
                counts["not"] += 1
                self.check_not_together(net, looks, error.looks)
            else:
                counts["told"] += 1
                self.check_told(rng, net, looks, told)
        self.assertGreater(min(counts.values()), 50, counts)

    def random_look(self, rng, net, offsets):
        """A look that comes out with these offsets, or, now and then, nearly."""
        entry, end = random_entry(rng, net), rng.randint(0, 1)
        walk = [rng.choice(net.programs)]
        for _ in range(rng.randint(0, 4)):
            walk += rng.sample(net.targets_of(walk[-1]), min(1, len(net.targets_of(walk[-1]))))
        other = with_offsets(net, offsets)
        last = plain_along(other, walk, held(entry))[-1]
        what = "day" if last[0] == "day" else rng.choice(["clock", "day"])
        seen = plain_clock(other, walk[-1], last) if what == "clock" else plain_shown(other, walk[-1], last)
        more = rng.choice([0] * 12 + [1, -1, 300])
        return rng.choice([tuple, list])((entry, rng.choice([tuple, list])(walk), end, what, seen[end] + more))

    def check_not_together(self, net, looks, indices):
        self.assertIs(type(indices), tuple)
        self.assertEqual(list(indices), sorted(set(indices)))
        self.assertGreater(len(indices), 0)
        with self.assertRaises(NotTogether) as caught:
            told_back(net, [looks[index] for index in indices])
        self.assertEqual(caught.exception.looks, tuple(range(len(indices))))
        for left in indices:
            some = told_back(net, [looks[index] for index in indices if index != left]).some()
            for index in indices:
                self.assertEqual(comes_out(net, looks[index], some), index != left)

    def check_told(self, rng, net, looks, told):
        """The bounds are met by offsets that fit, and nothing beyond them fits."""
        some = told.some()
        self.assertEqual(set(some), set(net.zones))
        self.assertTrue(all(-840 <= offset <= 840 for offset in some.values()))
        self.assertTrue(all(comes_out(net, look, some) for look in looks))
        one, other = rng.choice(net.zones), rng.choice(net.zones)
        self.assertLessEqual(told.lowest(one), some[one])
        self.assertLessEqual(some[one], told.highest(one))
        low, high = told.between(one, other)
        self.assertTrue(low <= some[one] - some[other] <= high)
        self.assertEqual(told.between(other, one), (-high, -low))

    def test_bounds_are_met(self):
        # For each number from the least to the greatest one there are offsets that fit, and none beyond.
        rng = random.Random(42)
        names = "abc"
        net = Net(
            "\n".join(f"zone {name} 0" for name in names) + "\n"
            + "\n".join(f"program {name} at {name}\n  float -> fixed\n  fixed -> float" for name in names) + "\n"
            + "\n".join(f"route {one} {other}" for one in names for other in names)
        )
        for _ in range(150):
            secret = {zone: rng.randint(-840, 840) for zone in names}
            looks = [look for look in (self.random_look(rng, net, secret) for _ in range(4)) if is_narrow(net, look[1], look[0], look[2])]
            looks = [look for look in looks if comes_out(net, look, secret)]
            told = told_back(net, looks)
            one, other = rng.sample(names, 2)
            low, high = told.between(one, other)
            for number in {low, high, (low + high) // 2}:
                pin = (Entry("float 0 to 0"), (other, other, one), 0, "clock", number)
                some = told_back(net, [*looks, pin]).some()
                self.assertEqual(some[one] - some[other], number)
                self.assertTrue(all(comes_out(net, look, some) for look in looks))
            for number in (low - 1, high + 1):
                with self.assertRaises(NotTogether):
                    told_back(net, [*looks, (Entry("float 0 to 0"), (other, other, one), 0, "clock", number)])
            for number in (told.lowest(one), told.highest(one)):
                self.assertEqual(told_back(net, [*looks, (Entry("fixed 0 to 0"), (one,), 0, "clock", number)]).some()[one], number)
            for number in (told.lowest(one) - 1, told.highest(one) + 1):
                with self.assertRaises(NotTogether):
                    told_back(net, [*looks, (Entry("fixed 0 to 0"), (one,), 0, "clock", number)])
            entry = Entry(f"float {rng.randint(-999, 9999)} to 99999")
            days = told.days(entry, (other, other, one), 0)
            self.assertEqual(days, ((entry.first + low) // 1440, (entry.first + high) // 1440))


class NarrowTest(unittest.TestCase):

    def test_roundings_and_factors(self):
        turn = M.with_program("c", "west").with_rule("c", "fixed", "day").with_route("a", "c").with_route("c", "b").with_route("a", "a")
        for walk, entry, wide in [
            (("a", "b", "a"), FLOAT, False), (("a", "b", "a", "b", "a"), FLOAT, True), (("a", "b", "a", "b"), FLOAT, False),
            (("a", "c"), FLOAT, False), (("a", "c"), Entry("fixed 0 to 0"), True), (("a", "c", "b"), Entry("fixed 0 to 0"), True),
            (("a", "b", "a"), Entry("day 0 to 0"), False), (("b", "a", "b", "a"), Entry("fixed 0 to 0"), True),
            (("b", "a", "b"), Entry("fixed 0 to 0"), False), (("b",), Entry("zoned 0 to 0 west"), False),
            (("a", "a", "a"), Entry("zoned 0 to 0 west"), False), (("a",), Entry("zoned 0 to 0 west"), False),
        ]:
            told = told_back(turn, [])
            self.assertEqual(is_narrow(turn, walk, entry, 0), not wide)
            if not wide:
                told.days(entry, walk, 0)
                continue
            with self.assertRaises(TooWide) as caught:
                told.days(entry, walk, 1)
            self.assertEqual(caught.exception.index, 0)
            with self.assertRaises(TooWide) as caught:
                told_back(turn, [WEST, (entry, walk, 0, "day", 10 ** 9), (entry, walk, 0, "day", 0)])
            self.assertEqual(caught.exception.index, 1)

    def test_factors_that_make_up_for_one_another(self):
        # The offsets of a come and go, so that only those of b and c are left.
        net = Net(
            "zone a 0\nzone b 0\nzone c 0\nprogram p at a\n  float -> fixed\nprogram q at b\n  fixed -> float\n"
            "program r at c\n  float -> fixed\nprogram s at a\n  fixed -> float\nroute p q\nroute q r\nroute r s"
        )
        told = told_back(net, [])
        for walk in (("p", "q", "r", "s"), ("q", "r", "s")):
            self.assertTrue(is_narrow(net, walk, FLOAT, 0))
            self.assertEqual(told.days(FLOAT, walk, 0), (-1, 1))
        # A moment gets b, loses c, and then gets the offset of s.
        fixed = Entry("fixed 600 to 600")
        self.assertEqual(told_back(net.with_home("s", "c"), []).days(fixed, ("p", "q", "r", "s"), 0), (-1, 1))
        for home in "ab":
            with self.assertRaises(TooWide):
                told_back(net.with_home("s", home), []).days(fixed, ("p", "q", "r", "s"), 0)


class ErrorsTest(unittest.TestCase):

    def test_sixty_looks_and_sixty_one(self):
        self.assertEqual(told_back(M, [WEST] * 60).highest("west"), -300)
        self.assertEqual(told_back(M, (HOME,) * 59 + (WEST,)).highest("home"), -61)
        for looks in ([WEST] * 61, [None] * 61, tuple([LATE, WEST] * 40)):
            with self.assertRaises(TooMany) as caught:
                told_back(M, looks)
            self.assertEqual(caught.exception.most, 60)

    def test_values_that_are_no_looks(self):
        day = Entry("day 0 to 0")
        wrong = [value for value in odd_values() + [5, "look", "abcde", b"abcde"]]
        wrong += [(), (FLOAT,), WEST[:4], (*WEST, 0), list(WEST[1:])]
        for value in odd_values() + [0, "fixed 900 to 959"]:
            wrong.append((value, *WEST[1:]))
        for value in [one for one in odd_values() if not isinstance(one, (tuple, list))] + ["b", "", 3]:
            wrong.append((WEST[0], value, *WEST[2:]))
        for value in odd_values() + [2, -1, "0", GREAT]:
            wrong.append([*WEST[:2], value, *WEST[3:]])
        for value in odd_values() + [0, "", "days", "clocks", "Day", "shown"]:
            wrong.append((*WEST[:3], value, 600))
        for value in odd_values() + ["600", "", M]:
            wrong.append((*WEST[:4], value))
        wrong.append((day, ("a",), 0, "clock", 0))
        wrong.append((day, ("a", "b"), 1, "clock", 0))
        wrong.append((day, ("nobody",), 2, "day", 0))
        for value in wrong:
            for looks, index in (([value], 0), ([WEST, LATE, value, 5], 2), ((HOME, value, (FLOAT, (), 0, "day", 0)), 1)):
                with self.assertRaises(BadLook) as caught:
                    told_back(M, looks)
                self.assertEqual(caught.exception.index, index)

    def test_walks_and_zones_of_looks(self):
        for value in no_names() + ["zzz", "home"]:
            for walk in ((value,), ["a", "b", value], ("a", "a", value)):
                for entry in (FLOAT, EAST):
                    for number in (0, 7):
                        with self.assertRaises(NoProgram) as caught:
                            told_back(M, [WEST, (entry, walk, 0, "clock", number), None])
                        self.assertTrue(is_same(caught.exception.name, value))
        for walk, index in (((), 0), ([], 0), (("a", "a"), 1), (("a", "b", "b"), 2)):
            for entry in (FLOAT, EAST):
                with self.assertRaises(NoRoute) as caught:
                    told_back(M, [(entry, walk, 1, "day", 0), 5])
                self.assertEqual(caught.exception.index, index)
        with self.assertRaises(NoZone) as caught:
            told_back(M, [WEST, (EAST, ("a", "b"), 0, "day", 0), LATE])
        self.assertEqual(caught.exception.name, "east")

    def test_a_day_at_the_end_comes_ahead_of_a_wide_walk(self):
        net = M.with_rule("a", "fixed", "day")
        for what, error in (("clock", BadLook), ("day", TooWide)):
            with self.assertRaises(error) as caught:
                told_back(net, [WEST, (FLOAT, ("a", "b", "a"), 0, what, 0), LATE, None])
            self.assertEqual(caught.exception.index, 1)

    def test_errors_of_told(self):
        told = told_back(M, [WEST])
        for value in no_names() + ["zzz", "a"]:
            for ask in (
                lambda: told.lowest(value), lambda: told.highest(value), lambda: told.between(value, "home"),
                lambda: told.between("home", value), lambda: told.between(value, 5),
            ):
                with self.assertRaises(NoZone) as caught:
                    ask()
                self.assertIs(caught.exception.name, value)
        for value in no_names() + ["zzz", "home"]:
            for end in (0, value):
                with self.assertRaises(NoProgram) as caught:
                    told.days(EAST, ("a", value), end)
                self.assertIs(caught.exception.name, value)
        for walk, index in (((), 0), (("a", "b", "b"), 2)):
            for end in (0, 2):
                with self.assertRaises(NoRoute) as caught:
                    told.days(EAST, walk, end)
                self.assertEqual(caught.exception.index, index)
        for end in [0, *odd_values()]:
            with self.assertRaises(NoZone):
                told.days(EAST, ("a", "b"), end)
        wide = ("a", "b", "a", "b", "a")
        for end in [*odd_values(), 2, -1, "0", GREAT]:
            with self.assertRaises(BadNumber) as caught:
                told.days(FLOAT, wide, end)
            self.assertIs(field_of(caught.exception), end)
        for end in (0, 1):
            with self.assertRaises(TooWide):
                told.days(FLOAT, wide, end)


if __name__ == "__main__":
    unittest.main()

"""Points 37 to 39: which changes of rules, or which routes less, let an entry stay on its days."""

import itertools
import random
import unittest

from tests.plain import KINDS, held, plain_states, random_entry, random_net, random_rule, turning_net
from tests.test_states import DAY, FLOAT as ZERO, MORE, N, THOUSAND, is_same
from tests.test_twins import FLOAT, K, M, seconds
from tests.values import no_names, odd_values
from whoseday.bands import is_right
from whoseday.entries import Entry
from whoseday.errors import BadChange, BadNumber, NoProgram, NoZone, TooMany
from whoseday.nets import Net
from whoseday.repairs import cut, holds, repair

CHANGES = [("b", "fixed", "keep"), ("a", "fixed", "keep"), ("b", "float", "keep")]
EAST = Entry("zoned 0 to 0 east")


def plain_holds(net, p, entry, width):
    if width is not None:
        return is_right(net, p, entry, width)
    try:
        both = [plain_states(net, p, held(entry), end, 1000) for end in (0, 1)]
    except RuntimeError:
        raise TooMany(1000)
    return not any(days for _, steps in both for row in steps for _, days, _ in row)


def choices(many):
    return [one for size in range(many + 1) for one in itertools.combinations(range(many), size)]


def plain_repair(net, p, entry, changes, width):
    for chosen in choices(len(changes)):
        other = net
        for index in chosen:
            other = other.with_rule(*changes[index])
        if len({tuple(changes[index][:2]) for index in chosen}) == len(chosen) and plain_holds(other, p, entry, width):
            return chosen
    return None


def plain_cut(net, p, entry, width):
    for chosen in choices(len(net.routes)):
        other = net
        for index in chosen:
            other = other.without_route(*net.routes[index])
        if plain_holds(other, p, entry, width):
            return chosen


def told_by(ask, *arguments):
    """What is returned, or the most that TooMany tells."""
    try:
        return ask(*arguments)
    except TooMany as error:
        return f"more than {error.most}"


class HoldsTest(unittest.TestCase):

    def test_example_by_hand(self):
        self.assertIs(holds(M, "a", FLOAT), False)
        self.assertIs(holds(K, "a", FLOAT), True)
        self.assertIs(holds(K, "a", FLOAT, 1680), True)
        self.assertIs(holds(M, "a", FLOAT, width=None), False)
        self.assertIs(holds(K, "a", FLOAT, width=0), True)

    def test_both_points_have_to_stay(self):
        self.assertIs(holds(N, "phone", DAY), False)
        for hours, wanted in (("0 1439", False), ("300 1439", True), ("300 1440", None), ("0 300", False), ("299 299", False)):
            if wanted is not None:
                self.assertIs(holds(N.with_rule("desk", "day", f"fixed {hours}"), "phone", DAY), wanted)
        ahead = N.with_offset("west", 300)
        self.assertIs(holds(ahead.with_rule("desk", "day", "fixed 0 1139"), "phone", DAY), True)
        self.assertIs(holds(ahead.with_rule("desk", "day", "fixed 0 1140"), "phone", DAY), False)

    def test_other_programs_that_are_not_reached(self):
        net = Net(M.text.replace("\nroute b a", ""))
        self.assertIs(holds(net, "b", Entry("fixed 1500 to 1600")), True)
        self.assertIs(holds(net, "a", FLOAT), True)
        self.assertIs(holds(net, "a", Entry("fixed 100 to 100")), False)

    def test_random_nets(self):
        rng = random.Random(37)
        told = {True: 0, False: 0}
        for turn in range(300):
            net = turning_net(rng) if turn % 2 else random_net(rng)
            entry, p = random_entry(rng, net), rng.choice(net.programs)
            for width in (None, 0, 100, 1680):
                found = holds(net, p, entry, width)
                self.assertIs(found, plain_holds(net, p, entry, width))
                told[found] += 1
        self.assertGreater(min(told.values()), 100)

    def test_a_thousand_states_and_one_more(self):
        self.assertIs(holds(THOUSAND, "c", ZERO), False)
        with self.assertRaises(TooMany) as caught:
            holds(MORE, "c", ZERO)
        self.assertEqual(caught.exception.most, 1000)
        for width in (0, 1680):
            self.assertIs(holds(MORE, "c", ZERO, width), is_right(MORE, "c", ZERO, width))

    def test_errors_in_their_order(self):
        for ask in (holds, cut, lambda net, p, entry, width=None: repair(net, p, entry, [], width)):
            for value in no_names() + ["zzz", "home"]:
                for entry, width in ((FLOAT, None), (EAST, None), (EAST, 0), (FLOAT, -1), (FLOAT, value)):
                    with self.assertRaises(NoProgram) as caught:
                        ask(K, value, entry, width)
                    self.assertIs(caught.exception.name, value)
            for width in [None, 0, 1681, -1, *odd_values(), ""]:
                with self.assertRaises(NoZone) as caught:
                    ask(K, "a", EAST, width)
                self.assertEqual(caught.exception.name, "east")
            for width in [one for one in odd_values() if one is not None] + [-1, 1681, 10 ** 30, "", "0"]:
                for net, entry in ((K, FLOAT), (M, DAY)):
                    with self.assertRaises(BadNumber) as caught:
                        ask(net, "a", entry, width)
                    self.assertTrue(is_same(caught.exception.number, width))


class RepairTest(unittest.TestCase):

    def test_example_by_hand(self):
        self.assertEqual(repair(M, "a", FLOAT, CHANGES), (1,))
        self.assertEqual(repair(M, "a", FLOAT, CHANGES, 600), (1,))
        self.assertEqual(repair(M, "a", FLOAT, CHANGES, 601), (2,))
        self.assertEqual(repair(M, "a", FLOAT, CHANGES, width=601), (2,))

    def test_none_and_no_changes(self):
        self.assertEqual(repair(K, "a", FLOAT, CHANGES), ())
        self.assertEqual(repair(K, "a", FLOAT, [], 1680), ())
        self.assertIsNone(repair(M, "a", FLOAT, []))
        self.assertIsNone(repair(M, "a", FLOAT, [("b", "fixed", "keep")]))
        self.assertIsNone(repair(M, "a", FLOAT, (["b", "fixed", "keep"],), 1680))

    def test_two_changes(self):
        net = M.with_program("c", "west").with_rule("c", "float", "fixed").with_route("a", "c").with_route("c", "a")
        changes = [("b", "float", "keep"), ("c", "day", "keep"), ["c", "float", "keep"], ("a", "fixed", "float")]
        self.assertEqual(repair(net, "a", FLOAT, changes), (0, 2))
        self.assertEqual(repair(net, "a", FLOAT, tuple(changes)), (0, 2))
        self.assertEqual(repair(net, "a", FLOAT, [*changes, ("a", "fixed", "keep")]), (4,))
        self.assertEqual(repair(net, "a", FLOAT, [changes[1], changes[2], changes[0]]), (1, 2))

    def test_no_two_changes_are_for_one_rule(self):
        changes = [("a", "fixed", "float"), ("a", "fixed", "keep")]
        self.assertEqual(repair(M, "a", FLOAT, changes), (1,))
        both = M.with_program("c", "home").with_rule("c", "float", "fixed").with_route("a", "c").with_route("c", "a")
        self.assertEqual(repair(both, "a", FLOAT, [("a", "fixed", "keep"), ("a", "fixed", "keep")]), (0,))

    def test_the_least_of_several_tuples(self):
        changes = [("b", "float", "keep"), ("a", "fixed", "keep"), ("b", "float", "zoned")]
        self.assertEqual(repair(M, "a", FLOAT, changes), (0,))
        self.assertEqual(repair(M, "a", FLOAT, changes[::-1]), (0,))

    def test_random_changes(self):
        rng = random.Random(38)
        told = {}
        for turn in range(250):
            net = turning_net(rng, routes=rng.randint(1, 6)) if turn % 2 else random_net(rng, routes=rng.randint(1, 6))
            entry, p = random_entry(rng, net), rng.choice(net.programs)
            changes = []
            for _ in range(rng.randint(0, 5)):
                kind = rng.choice(KINDS)
                changes.append((rng.choice(net.programs), kind, rng.choice([random_rule(rng, kind), "keep"])))
            width = rng.choice([None, None, 0, 100, 720])
            found = told_by(repair, net, p, entry, changes, width)
            self.assertEqual(found, told_by(plain_repair, net, p, entry, changes, width))
            told[found if found is None else len(found)] = True
        self.assertTrue({None, 0, 1} <= set(told), told)

    def test_eight_changes_and_nine(self):
        useless = [(name, kind, "keep") for name in "ab" for kind in KINDS][:8]
        self.assertEqual(repair(K, "a", FLOAT, useless), ())
        self.assertEqual(repair(M, "a", FLOAT, [("b", "day", "keep")] * 7 + [("a", "fixed", "keep")]), (7,))
        for changes in ([("a", "day", "keep")] * 9, [None] * 9, tuple(no_names())):
            for net, p, entry, width in ((K, "a", FLOAT, None), (M, 5, EAST, "x")):
                with self.assertRaises(TooMany) as caught:
                    repair(net, p, entry, changes, width)
                self.assertEqual(caught.exception.most, 8)

    def test_members_that_are_no_changes(self):
        good = ("b", "float", "keep")
        wrong = [("zzz", "day", "keep"), ("home", "day", "keep"), ("a", "clock", "keep"), ("a", "day", "day"), ("a", "day", ""),
                 ("a", "day", "float 9 8"), ("a", "float", "moved"), ("a", "zoned", "own  day"), ("a", "day"), (), [],
                 ("a", "day", "keep", "keep"), "a day keep", "abc", ("a", "day", ("keep",)), {"a": 1, "day": 2, "keep": 3}]
        wrong += [(value, "day", "keep") for value in odd_values()] + [("a", value, "keep") for value in odd_values()]
        wrong += [["a", "fixed", value] for value in odd_values()] + odd_values() + [7, -1]
        for value in wrong:
            for changes, index in (([value], 0), ([good, value, None], 1), ([good, good, good, value], 3)):
                for p, entry, width in (("a", FLOAT, None), (5, EAST, -1)):
                    with self.assertRaises(BadChange) as caught:
                        repair(M, p, entry, changes, width)
                    self.assertEqual(caught.exception.index, index)
        for rule in ("keep", "float 0 0", "zoned 3 1439", "fixed 1439 1439"):
            self.assertIsNone(repair(M, "a", FLOAT, [("a", "day", rule)]))

    def test_nets_with_too_many_states(self):
        keeps = [("d", "float", "keep"), ("b", "float", "keep")]
        with self.assertRaises(TooMany) as caught:
            repair(MORE, "c", ZERO, keeps)
        self.assertEqual(caught.exception.most, 1000)
        self.assertEqual(repair(MORE, "c", ZERO, keeps, 1), (0, 1))
        self.assertEqual(repair(THOUSAND, "c", ZERO, keeps), (0, 1))
        # A change that is for no copy at all leaves the number of states as it is.
        self.assertIsNone(repair(THOUSAND, "c", ZERO, [("e", "zoned", "own day"), ("e", "float", "keep")]))

    def test_too_many_states_beside_the_walk_that_moves_days(self):
        # What moves days is on the way from a to c and d, the change makes states on that from a to b.
        net = Net(
            "zone home 0\nzone west -1\nprogram a at home\n  fixed -> float\nprogram b at west\n"
            "program c at west\n  float -> day\n  fixed -> day\nprogram d at home\n  day -> fixed 0 1439\n"
            "route a b\nroute b a\nroute a c\nroute c d\nroute d c"
        )
        entry = Entry("float 5 to 5")
        slow, cure, no_use = ("b", "float", "fixed"), ("d", "day", "keep"), ("b", "day", "keep")
        self.assertEqual(repair(net, "a", entry, [cure, slow]), (0,))
        self.assertEqual(repair(net, "a", entry, [no_use, cure, slow]), (1,))
        for changes in ([slow, cure], [no_use, slow, cure], [slow]):
            with self.assertRaises(TooMany) as caught:
                repair(net, "a", entry, changes)
            self.assertEqual(caught.exception.most, 1000)

    def test_too_many_states_by_a_change_that_comes_first(self):
        # As soon as b makes moments of clocks, they are a minute more in each lap of a and b.
        net = Net(
            "zone home 0\nzone west -1\nprogram a at home\n  fixed -> float\nprogram b at west\n"
            "program c at home\n  day -> fixed 0 1439\nprogram d at west\n  float -> day\n  fixed -> day\n"
            "route a b\nroute b a\nroute b d\nroute d c\nroute c d"
        )
        entry = Entry("float 5 to 5")
        slow = ("b", "float", "fixed")
        self.assertIs(holds(net, "a", entry), False)
        for cure in (("c", "day", "keep"), ("c", "day", "float 3 9")):
            self.assertEqual(repair(net, "a", entry, [cure, slow]), (0,))
            with self.assertRaises(TooMany) as caught:
                repair(net, "a", entry, [slow, cure])
            self.assertEqual(caught.exception.most, 1000)
            self.assertEqual(repair(net, "a", entry, [slow, cure], 0), ())
            self.assertEqual(repair(net, "a", entry, [slow, cure], 1), (1,))
            # Both together are not looked at, as one of them does.
            self.assertEqual(repair(net, "a", entry, [cure, cure, slow]), (0,))
        with self.assertRaises(TooMany):
            repair(net, "a", entry, [("a", "day", "keep"), ("c", "day", "fixed 0 0"), slow])
        self.assertIsNone(repair(net, "a", entry, [("a", "day", "keep"), ("c", "day", "fixed 0 0")]))


def star(leaves, offset=-840):
    """A net in which a program has all that desk has; what is zoned shows elsewhere there, unless it is taken as if."""
    lines = ["zone here 0", f"zone west {offset}", "program desk at here", *[f"program {name} at west" for name in leaves]]
    return Net("\n".join(lines + [f"route desk {name}" for name in leaves]))


LEAVES = ["aa", "bb", "cc", "dd", "ee", "ff", "gg", "hh"]
ZONED = Entry("zoned 0 to 59 here")
MENDS = [(name, "zoned", "as if") for name in LEAVES]
# c and d lead the clock of what a has to another day, and so do e and f; a and b can come to make it ever later.
WANDERING = Net(
    "zone here 0\nzone west -1\nzone far -840\nprogram a at here\nprogram b at west\nprogram c at far\n  float -> fixed\n"
    "program d at here\nprogram e at far\n  float -> fixed\nprogram f at here\n"
    "route a b\nroute b a\nroute a c\nroute c d\nroute a e\nroute e f"
)
MEND_C, MEND_E = ("c", "float", "keep"), ("e", "float", "keep")
TURN_A, TURN_B = ("a", "fixed", "float"), ("b", "float", "fixed")


class StarTest(unittest.TestCase):

    def check(self, net, entry, changes, wanted):
        for width in (None, 1, 5, 840, 1680):
            self.assertEqual(repair(net, "desk", entry, changes, width), wanted)

    def test_all_eight_changes(self):
        self.check(star(LEAVES), ZONED, MENDS, (0, 1, 2, 3, 4, 5, 6, 7))
        self.assertEqual(repair(star(LEAVES), "desk", ZONED, MENDS, 0), ())
        for many in range(8):
            self.check(star(LEAVES[:many]), ZONED, MENDS[:many], tuple(range(many)))

    def test_no_change_is_needed(self):
        self.check(star(LEAVES), Entry("float 0 to 59"), MENDS, ())
        self.check(star([]), ZONED, [("desk", "zoned", "as if")] * 8, ())
        self.assertEqual(repair(star(LEAVES, 0), "desk", ZONED, MENDS), ())
        self.assertEqual(repair(star(LEAVES), "desk", Entry("zoned 840 to 1439 here"), MENDS), ())

    def test_one_change(self):
        self.check(star(["aa"]), ZONED, MENDS[:1], (0,))
        self.check(star(["aa"]), ZONED, [("desk", "zoned", "as if"), ("aa", "float", "fixed"), ("aa", "zoned", "own float")], (2,))
        self.check(star(["aa", "bb"]).without_route("desk", "bb"), ZONED, [MENDS[1], MENDS[0]], (1,))

    def test_nothing_mends(self):
        self.check(star(LEAVES), ZONED, MENDS[:7], None)
        self.check(star(LEAVES), ZONED, [], None)
        self.check(star(LEAVES), ZONED, [(name, "zoned", "moved") for name in LEAVES], None)
        self.check(star(LEAVES), ZONED, [*MENDS[:7], ("hh", "zoned", "home float")], None)
        self.check(star(LEAVES), ZONED, [*MENDS[:7], ("hh", "float", "zoned")], None)

    def test_two_changes_for_one_program_and_kind(self):
        self.check(star(["aa"]), ZONED, [("aa", "zoned", "moved"), ("aa", "zoned", "as if")], (1,))
        self.check(star(["aa"]), ZONED, [("aa", "zoned", "as if"), ("aa", "zoned", "own float")], (0,))
        self.check(star(["aa", "bb"]), ZONED, [
            ("aa", "zoned", "home float"), MENDS[1], ("bb", "zoned", "moved"), ("aa", "zoned", "own day"), MENDS[0], MENDS[1],
        ], (1, 3))
        self.check(star(["aa", "bb"]), ZONED, [("aa", "zoned", "moved"), ("aa", "zoned", "fixed"), MENDS[1]], None)

    def test_changes_that_change_nothing(self):
        keeps = [(name, "zoned", "keep") for name in LEAVES]
        self.check(star(LEAVES), ZONED, keeps, None)
        self.check(star(LEAVES[:3]), ZONED, [keeps[0], MENDS[2], keeps[2], MENDS[0], keeps[1], MENDS[1], MENDS[1], keeps[0]], (1, 3, 5))
        self.check(star(["aa"]), ZONED, [("aa", "zoned", "keep"), ("aa", "zoned", "as if")], (1,))
        mended = star(LEAVES).with_rule("aa", "zoned", "as if")
        self.check(mended, ZONED, MENDS, (1, 2, 3, 4, 5, 6, 7))
        self.check(mended, ZONED, [("aa", "zoned", "keep"), *MENDS[1:]], (1, 2, 3, 4, 5, 6, 7))

    def test_random_stars(self):
        rng = random.Random(41)
        told = {}
        for _ in range(60):
            leaves = LEAVES[:rng.randint(1, 4)]
            net = star(leaves, rng.choice([-840, -300, 720]))
            for name in leaves:
                if rng.random() < 0.3:
                    net = net.with_rule(name, "zoned", random_rule(rng, "zoned"))
                if rng.random() < 0.3:
                    net = net.with_route(name, rng.choice(["desk", *leaves]))
            changes = [(rng.choice(leaves), "zoned", random_rule(rng, "zoned")) for _ in range(rng.randint(0, 2))]
            changes += [one for one in MENDS[:len(leaves)] if rng.random() < 0.9]
            rng.shuffle(changes)
            entry = rng.choice([ZONED, Entry("zoned 0 to 600 west"), Entry("fixed 0 to 59")])
            for width in (None, 1, 300):
                found = told_by(repair, net, "desk", entry, changes, width)
                self.assertEqual(found, told_by(plain_repair, net, "desk", entry, changes, width))
                told[found if found is None else len(found)] = True
        self.assertTrue({None, 0, 1, 2, 3} <= set(told), told)

    def test_it_is_told_soon(self):
        for width in (None, 1, 5, 840):
            for changes in (MENDS, MENDS[:7], [*MENDS[:7], ("hh", "float", "day")]):
                self.assertLess(seconds(lambda: repair(star(LEAVES), "desk", ZONED, changes, width)), 0.05)


class OrderTest(unittest.TestCase):
    """Nets with too many states count if they are looked at, ahead of the first one that holds."""

    def assert_too_many(self, changes):
        with self.assertRaises(TooMany) as caught:
            repair(WANDERING, "a", FLOAT, changes)
        self.assertEqual(caught.exception.most, 1000)

    def test_one_wandering_change_is_ahead_of_two(self):
        turned = WANDERING.with_rule("a", "fixed", "float")
        for changes in ([MEND_C, MEND_E, TURN_B], [TURN_B, MEND_C, MEND_E], [MEND_C, TURN_B]):
            with self.assertRaises(TooMany):
                repair(turned, "a", FLOAT, changes)
            self.assertEqual(told_by(plain_repair, turned, "a", FLOAT, changes, None), "more than 1000")
        self.assertEqual(repair(turned, "a", FLOAT, [MEND_C, MEND_E]), (0, 1))
        one = turned.without_program("f")
        self.assertEqual(repair(one, "a", FLOAT, [MEND_C, TURN_B]), (0,))
        with self.assertRaises(TooMany):
            repair(one, "a", FLOAT, [TURN_B, MEND_C])
        # Within a width no states are counted.
        self.assertEqual(repair(turned, "a", FLOAT, [TURN_B, MEND_C, MEND_E], 601), (1, 2))

    def test_two_wandering_changes_ahead_of_two_or_behind(self):
        self.assert_too_many([TURN_A, TURN_B, MEND_C, MEND_E])
        self.assert_too_many([TURN_B, MEND_C, TURN_A])
        self.assertEqual(repair(WANDERING, "a", FLOAT, [MEND_C, TURN_B, MEND_E, TURN_A]), (0, 2))
        self.assertEqual(repair(WANDERING, "a", FLOAT, [MEND_C, MEND_E, TURN_B, TURN_A]), (0, 1))
        self.assert_too_many([TURN_A, TURN_B, MEND_E])
        self.assertIsNone(repair(WANDERING, "a", FLOAT, [MEND_C, TURN_A, ("b", "float", "zoned")]))

    def test_three_changes_behind_others_that_lead_too_far(self):
        # Any two of the three are too few, and the two that wander come behind the last tuple of three that is needed.
        net = WANDERING.with_program("g", "far").with_rule("g", "float", "fixed").with_route("a", "g")
        net = net.with_program("h", "here").with_route("g", "h")
        mend_g = ("g", "float", "keep")
        self.assertEqual(repair(net, "a", FLOAT, [MEND_C, MEND_E, mend_g, TURN_A]), (0, 1, 2))
        self.assertEqual(told_by(repair, net, "a", FLOAT, [MEND_C, MEND_E, mend_g, TURN_A, TURN_B]), "more than 1000")
        # One point has too many states already, whatever days they show.
        self.assertEqual(told_by(repair, net.with_rule("a", "fixed", "float").with_rule("b", "float", "fixed"),
                                 "a", FLOAT, [MEND_C, MEND_E, mend_g]), "more than 1000")

    def test_wandering_changes_beside_many_others(self):
        rng = random.Random(42)
        told = {}
        for _ in range(25):
            net = WANDERING.with_offset("west", rng.choice([-2, -90, -360]))
            changes = rng.sample([MEND_C, MEND_E, TURN_A, TURN_B, ("d", "fixed", "day"), ("b", "fixed", "zoned")], 4)
            found = told_by(repair, net, "a", FLOAT, changes)
            self.assertEqual(found, told_by(plain_repair, net, "a", FLOAT, changes, None))
            told[found] = True
        self.assertGreater(len(told), 2)


class CutTest(unittest.TestCase):

    def test_example_by_hand(self):
        self.assertEqual(cut(M, "a", FLOAT), (0,))
        self.assertEqual(cut(K, "a", FLOAT), ())
        self.assertEqual(cut(M, "a", FLOAT, width=600), (0,))

    def test_nets_without_routes(self):
        net = Net("zone a 0\nprogram p at a")
        self.assertEqual(cut(net, "p", FLOAT), ())
        self.assertEqual(cut(net, "p", FLOAT, 1680), ())

    def test_two_routes(self):
        net = M.with_program("c", "west").with_rule("c", "float", "fixed").with_route("a", "c").with_route("c", "a")
        self.assertEqual(cut(net, "a", FLOAT), (0, 2))
        self.assertEqual(cut(net, "a", FLOAT, 1), (0, 2))
        self.assertEqual(cut(net, "a", FLOAT, 0), ())
        self.assertEqual(cut(N, "phone", DAY), (0,))

    def test_random_nets(self):
        rng = random.Random(39)
        told = {}
        for turn in range(200):
            net = turning_net(rng, routes=rng.randint(1, 6)) if turn % 2 else random_net(rng, routes=rng.randint(1, 6))
            entry, p = random_entry(rng, net), rng.choice(net.programs)
            width = rng.choice([None, None, 0, 100, 720])
            found = told_by(cut, net, p, entry, width)
            self.assertEqual(found, told_by(plain_cut, net, p, entry, width))
            told[len(found)] = True
        self.assertTrue({0, 1, 2} <= set(told), told)

    def test_ten_routes_and_eleven(self):
        names = "abcdefghijk"
        rng = random.Random(40)
        pairs = rng.sample([(one, other) for one in names for other in names], 11)
        lines = ["zone home 0", "zone west -300"]
        lines += [f"program {name} at {rng.choice(['home', 'west'])}\n  fixed -> float\n  float -> fixed" for name in names]
        eleven = Net("\n".join(lines + [f"route {one} {other}" for one, other in pairs]))
        for width in (None, 0, 5):
            for entry in (FLOAT, Entry("fixed 0 to 0")):
                ten = eleven.without_route(*pairs[-1])
                self.assertEqual(cut(ten, pairs[0][0], entry, width), plain_cut(ten, pairs[0][0], entry, width))
        for p, entry, width in (("a", FLOAT, None), (5, EAST, "x"), ("a", EAST, None), ("a", FLOAT, -1)):
            with self.assertRaises(TooMany) as caught:
                cut(eleven, p, entry, width)
            self.assertEqual(caught.exception.most, 10)

    def test_nets_with_too_many_states(self):
        with self.assertRaises(TooMany) as caught:
            cut(MORE, "c", ZERO)
        self.assertEqual(caught.exception.most, 1000)
        self.assertEqual(cut(THOUSAND, "c", ZERO), (0, 2))
        self.assertEqual(cut(MORE, "c", ZERO, 1), (0, 2))


if __name__ == "__main__":
    unittest.main()

"""Points 37 to 39: which changes of rules, or which routes less, let an entry stay on its days."""

import itertools
import random
import unittest

from tests.plain import KINDS, held, plain_states, random_entry, random_net, random_rule, turning_net
from tests.test_states import DAY, FLOAT as ZERO, MORE, N, THOUSAND, is_same
from tests.test_twins import FLOAT, K, M
from tests.values import no_names, odd_values
from whoseday.bands import is_right
from whoseday.entries import Entry
from whoseday.errors import BadChange, BadNumber, NoProgram, NoZone, TooMany
from whoseday.nets import Net
from whoseday.repairs import cut, holds, repair

CHANGES = [("b", "fixed", "keep"), ("a", "fixed", "keep"), ("b", "float", "keep")]
EAST = Entry("zoned 0 to 0 east")


def plain_holds(net, p, entry, width):
    if width is not None:
        return is_right(net, p, entry, width)
    both = [plain_states(net, p, held(entry), end) for end in (0, 1)]
    if max(len(found) for found, _ in both) > 1000:
        raise TooMany(1000)
    return not any(days for _, steps in both for row in steps for _, days, _ in row)


def choices(many):
    return [one for size in range(many + 1) for one in itertools.combinations(range(many), size)]


def plain_repair(net, p, entry, changes, width):
    for chosen in choices(len(changes)):
        other = net
        for index in chosen:
            other = other.with_rule(*changes[index])
        if len({tuple(changes[index][:2]) for index in chosen}) == len(chosen) and plain_holds(other, p, entry, width):
            return chosen
    return None


def plain_cut(net, p, entry, width):
    for chosen in choices(len(net.routes)):
        other = net
        for index in chosen:
            other = other.without_route(*net.routes[index])
        if plain_holds(other, p, entry, width):
            return chosen


def told_by(ask, *arguments):
    """What is returned, or the most that TooMany tells."""
    try:
        return ask(*arguments)
    except TooMany as error:
        return f"more than {error.most}"


class HoldsTest(unittest.TestCase):

    def test_example_by_hand(self):
        self.assertIs(holds(M, "a", FLOAT), False)
        self.assertIs(holds(K, "a", FLOAT), True)
        self.assertIs(holds(K, "a", FLOAT, 1680), True)
        self.assertIs(holds(M, "a", FLOAT, width=None), False)
        self.assertIs(holds(K, "a", FLOAT, width=0), True)

    def test_both_points_have_to_stay(self):
        self.assertIs(holds(N, "phone", DAY), False)
        for hours, wanted in (("0 1439", False), ("300 1439", True), ("300 1440", None), ("0 300", False), ("299 299", False)):
            if wanted is not None:
                self.assertIs(holds(N.with_rule("desk", "day", f"fixed {hours}"), "phone", DAY), wanted)
        ahead = N.with_offset("west", 300)
        self.assertIs(holds(ahead.with_rule("desk", "day", "fixed 0 1139"), "phone", DAY), True)
        self.assertIs(holds(ahead.with_rule("desk", "day", "fixed 0 1140"), "phone", DAY), False)

    def test_other_programs_that_are_not_reached(self):
        net = Net(M.text.replace("\nroute b a", ""))
        self.assertIs(holds(net, "b", Entry("fixed 1500 to 1600")), True)
        self.assertIs(holds(net, "a", FLOAT), True)
        self.assertIs(holds(net, "a", Entry("fixed 100 to 100")), False)

    def test_random_nets(self):
        rng = random.Random(37)
        told = {True: 0, False: 0}
        for turn in range(300):
            net = turning_net(rng) if turn % 2 else random_net(rng)
            entry, p = random_entry(rng, net), rng.choice(net.programs)
            for width in (None, 0, 100, 1680):
                found = holds(net, p, entry, width)
                self.assertIs(found, plain_holds(net, p, entry, width))
                told[found] += 1
        self.assertGreater(min(told.values()), 100)

    def test_a_thousand_states_and_one_more(self):
        self.assertIs(holds(THOUSAND, "c", ZERO), False)
        with self.assertRaises(TooMany) as caught:
            holds(MORE, "c", ZERO)
        self.assertEqual(caught.exception.most, 1000)
        for width in (0, 1680):
            self.assertIs(holds(MORE, "c", ZERO, width), is_right(MORE, "c", ZERO, width))

    def test_errors_in_their_order(self):
        for ask in (holds, cut, lambda net, p, entry, width=None: repair(net, p, entry, [], width)):
            for value in no_names() + ["zzz", "home"]:
                for entry, width in ((FLOAT, None), (EAST, None), (EAST, 0), (FLOAT, -1), (FLOAT, value)):
                    with self.assertRaises(NoProgram) as caught:
                        ask(K, value, entry, width)
                    self.assertIs(caught.exception.name, value)
            for width in [None, 0, 1681, -1, *odd_values(), ""]:
                with self.assertRaises(NoZone) as caught:
                    ask(K, "a", EAST, width)
                self.assertEqual(caught.exception.name, "east")
            for width in [one for one in odd_values() if one is not None] + [-1, 1681, 10 ** 30, "", "0"]:
                for net, entry in ((K, FLOAT), (M, DAY)):
                    with self.assertRaises(BadNumber) as caught:
                        ask(net, "a", entry, width)
                    self.assertTrue(is_same(caught.exception.number, width))


class RepairTest(unittest.TestCase):

    def test_example_by_hand(self):
        self.assertEqual(repair(M, "a", FLOAT, CHANGES), (1,))
        self.assertEqual(repair(M, "a", FLOAT, CHANGES, 600), (1,))
        self.assertEqual(repair(M, "a", FLOAT, CHANGES, 601), (2,))
        self.assertEqual(repair(M, "a", FLOAT, CHANGES, width=601), (2,))

    def test_none_and_no_changes(self):
        self.assertEqual(repair(K, "a", FLOAT, CHANGES), ())
        self.assertEqual(repair(K, "a", FLOAT, [], 1680), ())
        self.assertIsNone(repair(M, "a", FLOAT, []))
        self.assertIsNone(repair(M, "a", FLOAT, [("b", "fixed", "keep")]))
        self.assertIsNone(repair(M, "a", FLOAT, (["b", "fixed", "keep"],), 1680))

    def test_two_changes(self):
        net = M.with_program("c", "west").with_rule("c", "float", "fixed").with_route("a", "c").with_route("c", "a")
        changes = [("b", "float", "keep"), ("c", "day", "keep"), ["c", "float", "keep"], ("a", "fixed", "float")]
        self.assertEqual(repair(net, "a", FLOAT, changes), (0, 2))
        self.assertEqual(repair(net, "a", FLOAT, tuple(changes)), (0, 2))
        self.assertEqual(repair(net, "a", FLOAT, [*changes, ("a", "fixed", "keep")]), (4,))
        self.assertEqual(repair(net, "a", FLOAT, [changes[1], changes[2], changes[0]]), (1, 2))

    def test_no_two_changes_are_for_one_rule(self):
        changes = [("a", "fixed", "float"), ("a", "fixed", "keep")]
        self.assertEqual(repair(M, "a", FLOAT, changes), (1,))
        both = M.with_program("c", "home").with_rule("c", "float", "fixed").with_route("a", "c").with_route("c", "a")
        self.assertEqual(repair(both, "a", FLOAT, [("a", "fixed", "keep"), ("a", "fixed", "keep")]), (0,))

    def test_the_least_of_several_tuples(self):
        changes = [("b", "float", "keep"), ("a", "fixed", "keep"), ("b", "float", "zoned")]
        self.assertEqual(repair(M, "a", FLOAT, changes), (0,))
        self.assertEqual(repair(M, "a", FLOAT, changes[::-1]), (0,))

    def test_random_changes(self):
        rng = random.Random(38)
        told = {}
        for turn in range(250):
            net = turning_net(rng, routes=rng.randint(1, 6)) if turn % 2 else random_net(rng, routes=rng.randint(1, 6))
            entry, p = random_entry(rng, net), rng.choice(net.programs)
            changes = []
            for _ in range(rng.randint(0, 5)):
                kind = rng.choice(KINDS)
                changes.append((rng.choice(net.programs), kind, rng.choice([random_rule(rng, kind), "keep"])))
            width = rng.choice([None, None, 0, 100, 720])
            found = told_by(repair, net, p, entry, changes, width)
            self.assertEqual(found, told_by(plain_repair, net, p, entry, changes, width))
            told[found if found is None else len(found)] = True
        self.assertTrue({None, 0, 1} <= set(told), told)

    def test_eight_changes_and_nine(self):
        useless = [(name, kind, "keep") for name in "ab" for kind in KINDS][:8]
        self.assertEqual(repair(K, "a", FLOAT, useless), ())
        self.assertEqual(repair(M, "a", FLOAT, [("b", "day", "keep")] * 7 + [("a", "fixed", "keep")]), (7,))
        for changes in ([("a", "day", "keep")] * 9, [None] * 9, tuple(no_names())):
            for net, p, entry, width in ((K, "a", FLOAT, None), (M, 5, EAST, "x")):
                with self.assertRaises(TooMany) as caught:
                    repair(net, p, entry, changes, width)
                self.assertEqual(caught.exception.most, 8)

    def test_members_that_are_no_changes(self):
        good = ("b", "float", "keep")
        wrong = [("zzz", "day", "keep"), ("home", "day", "keep"), ("a", "clock", "keep"), ("a", "day", "day"), ("a", "day", ""),
                 ("a", "day", "float 9 8"), ("a", "float", "moved"), ("a", "zoned", "own  day"), ("a", "day"), (), [],
                 ("a", "day", "keep", "keep"), "a day keep", "abc", ("a", "day", ("keep",)), {"a": 1, "day": 2, "keep": 3}]
        wrong += [(value, "day", "keep") for value in odd_values()] + [("a", value, "keep") for value in odd_values()]
        wrong += [["a", "fixed", value] for value in odd_values()] + odd_values() + [7, -1]
        for value in wrong:
            for changes, index in (([value], 0), ([good, value, None], 1), ([good, good, good, value], 3)):
                for p, entry, width in (("a", FLOAT, None), (5, EAST, -1)):
                    with self.assertRaises(BadChange) as caught:
                        repair(M, p, entry, changes, width)
                    self.assertEqual(caught.exception.index, index)
        for rule in ("keep", "float 0 0", "zoned 3 1439", "fixed 1439 1439"):
            self.assertIsNone(repair(M, "a", FLOAT, [("a", "day", rule)]))

    def test_nets_with_too_many_states(self):
        keeps = [("d", "float", "keep"), ("b", "float", "keep")]
        with self.assertRaises(TooMany) as caught:
            repair(MORE, "c", ZERO, keeps)
        self.assertEqual(caught.exception.most, 1000)
        self.assertEqual(repair(MORE, "c", ZERO, keeps, 1), (0, 1))
        self.assertEqual(repair(THOUSAND, "c", ZERO, keeps), (0, 1))
        # A change that is for no copy at all leaves the number of states as it is.
        self.assertIsNone(repair(THOUSAND, "c", ZERO, [("e", "zoned", "own day"), ("e", "float", "keep")]))

    def test_too_many_states_beside_the_walk_that_moves_days(self):
        # What moves days is on the way from a to c and d, the change makes states on that from a to b.
        net = Net(
            "zone home 0\nzone west -1\nprogram a at home\n  fixed -> float\nprogram b at west\n"
            "program c at west\n  float -> day\n  fixed -> day\nprogram d at home\n  day -> fixed 0 1439\n"
            "route a b\nroute b a\nroute a c\nroute c d\nroute d c"
        )
        entry = Entry("float 5 to 5")
        slow, cure, no_use = ("b", "float", "fixed"), ("d", "day", "keep"), ("b", "day", "keep")
        self.assertEqual(repair(net, "a", entry, [cure, slow]), (0,))
        self.assertEqual(repair(net, "a", entry, [no_use, cure, slow]), (1,))
        for changes in ([slow, cure], [no_use, slow, cure], [slow]):
            with self.assertRaises(TooMany) as caught:
                repair(net, "a", entry, changes)
            self.assertEqual(caught.exception.most, 1000)

    def test_too_many_states_by_a_change_that_comes_first(self):
        # As soon as b makes moments of clocks, they are a minute more in each lap of a and b.
        net = Net(
            "zone home 0\nzone west -1\nprogram a at home\n  fixed -> float\nprogram b at west\n"
            "program c at home\n  day -> fixed 0 1439\nprogram d at west\n  float -> day\n  fixed -> day\n"
            "route a b\nroute b a\nroute b d\nroute d c\nroute c d"
        )
        entry = Entry("float 5 to 5")
        slow = ("b", "float", "fixed")
        self.assertIs(holds(net, "a", entry), False)
        for cure in (("c", "day", "keep"), ("c", "day", "float 3 9")):
            self.assertEqual(repair(net, "a", entry, [cure, slow]), (0,))
            with self.assertRaises(TooMany) as caught:
                repair(net, "a", entry, [slow, cure])
            self.assertEqual(caught.exception.most, 1000)
            self.assertEqual(repair(net, "a", entry, [slow, cure], 0), ())
            self.assertEqual(repair(net, "a", entry, [slow, cure], 1), (1,))
            # Both together are not looked at, as one of them does.
            self.assertEqual(repair(net, "a", entry, [cure, cure, slow]), (0,))
        with self.assertRaises(TooMany):
            repair(net, "a", entry, [("a", "day", "keep"), ("c", "day", "fixed 0 0"), slow])
        self.assertIsNone(repair(net, "a", entry, [("a", "day", "keep"), ("c", "day", "fixed 0 0")]))

class CutTest(unittest.TestCase):

    def test_example_by_hand(self):
        self.assertEqual(cut(M, "a", FLOAT), (0,))
        self.assertEqual(cut(K, "a", FLOAT), ())
        self.assertEqual(cut(M, "a", FLOAT, width=600), (0,))

    def test_nets_without_routes(self):
        net = Net("zone a 0\nprogram p at a")
        self.assertEqual(cut(net, "p", FLOAT), ())
        self.assertEqual(cut(net, "p", FLOAT, 1680), ())

    def test_two_routes(self):
        net = M.with_program("c", "west").with_rule("c", "float", "fixed").with_route("a", "c").with_route("c", "a")
        self.assertEqual(cut(net, "a", FLOAT), (0, 2))
        self.assertEqual(cut(net, "a", FLOAT, 1), (0, 2))
        self.assertEqual(cut(net, "a", FLOAT, 0), ())
        self.assertEqual(cut(N, "phone", DAY), (0,))

    def test_random_nets(self):
        rng = random.Random(39)
        told = {}
        for turn in range(200):
            net = turning_net(rng, routes=rng.randint(1, 6)) if turn % 2 else random_net(rng, routes=rng.randint(1, 6))
            entry, p = random_entry(rng, net), rng.choice(net.programs)
            width = rng.choice([None, None, 0, 100, 720])
            found = told_by(cut, net, p, entry, width)
            self.assertEqual(found, told_by(plain_cut, net, p, entry, width))
            told[len(found)] = True
        self.assertTrue({0, 1, 2} <= set(told), told)

    def test_ten_routes_and_eleven(self):
        names = "abcdefghijk"
        rng = random.Random(40)
        pairs = rng.sample([(one, other) for one in names for other in names], 11)
        lines = ["zone home 0", "zone west -300"]
        lines += [f"program {name} at {rng.choice(['home', 'west'])}\n  fixed -> float\n  float -> fixed" for name in names]
        eleven = Net("\n".join(lines + [f"route {one} {other}" for one, other in pairs]))
        for width in (None, 0, 5):
            for entry in (FLOAT, Entry("fixed 0 to 0")):
                ten = eleven.without_route(*pairs[-1])
                self.assertEqual(cut(ten, pairs[0][0], entry, width), plain_cut(ten, pairs[0][0], entry, width))
        for p, entry, width in (("a", FLOAT, None), (5, EAST, "x"), ("a", EAST, None), ("a", FLOAT, -1)):
            with self.assertRaises(TooMany) as caught:
                cut(eleven, p, entry, width)
            self.assertEqual(caught.exception.most, 10)

    def test_nets_with_too_many_states(self):
        with self.assertRaises(TooMany) as caught:
            cut(MORE, "c", ZERO)
        self.assertEqual(caught.exception.most, 1000)
        self.assertEqual(cut(THOUSAND, "c", ZERO), (0, 2))
        self.assertEqual(cut(MORE, "c", ZERO, 1), (0, 2))


if __name__ == "__main__":
    unittest.main()

"""Points 46 and 47: nets that are led, deeds that change them, and what is asked of them."""

import random
import unittest

from tests.plain import held, plain_copy, plain_shown, random_entry, random_net, turning_net
from tests.test_spans import M
from tests.test_states import DAY, N
from tests.values import no_names, odd_values
from whoseday.entries import Entry
from whoseday.errors import (
    BadDeed, BadEntry, BadName, BadNumber, NoProgram, NoRoute, NothingToUndo, NotHeld, NoZone, WhosedayError,
)
from whoseday.led import Led
from whoseday.nets import Net

MANY = 10 ** 30
EAST = Entry("zoned 0 to 0 east")
FLOAT = Entry("float 600 to 659")
# Routes that stand in the order of a ring, and against it.
RINGS = [
    "route a b\nroute b c\nroute c d\nroute d a", "route d a\nroute c d\nroute b c\nroute a b",
    "route a b\nroute c d\nroute b c\nroute d a", "route a b\nroute b a\nroute c d\nroute d b",
    "route a b\nroute a c\nroute b d\nroute d d", "route c a\nroute a b\nroute a c\nroute b a\nroute c c\nroute b d",
]
HEAD = (
    "zone here 0\nzone west -300\nzone east 420\nprogram a at here\n  day -> fixed 0 1439\n  fixed -> float\n"
    "program b at west\n  fixed -> day\n  float -> fixed\nprogram c at east\n  float -> zoned\n  zoned -> moved\n"
    "program d at here\n  day -> zoned 300 301\n  zoned -> home day\n"
)


class Plain:
    """What programs hold, round by round and copy by copy."""

    def __init__(self, net):
        self.net = net
        self.tables = {p: {} for p in net.programs}

    def copy(self):
        other = Plain(self.net)
        other.tables = {p: dict(table) for p, table in self.tables.items()}
        return other

    def round(self):
        for p, q in self.net.routes:
            for name, entry in list(self.tables[p].items()):
                self.tables[q][name] = plain_copy(self.net, q, entry)


def all_held(led):
    return {p: {name: held(led.held(p, name)) for name in led.listed(p)} for p in led.current.programs}


def seen(led):
    """All that can be asked of what is led, but what undo would do."""
    return led.current.text, led.deeds, all_held(led)


class Leading(unittest.TestCase):

    def assert_holds(self, led, plain):
        """Holds all that can be asked against what is held plainly."""
        self.assertEqual(led.current, plain.net)
        names = {name for table in plain.tables.values() for name in table}
        for p in plain.net.programs:
            table = plain.tables[p]
            self.assertEqual(led.listed(p), tuple(sorted(table)))
            self.assertEqual({name: held(led.held(p, name)) for name in table}, table)
            page = sorted((*plain_shown(plain.net, p, entry), name) for name, entry in table.items())
            self.assertEqual(led.page(p), tuple(page))
        for name in [*names, "nothing"]:
            days = {
                p: plain_shown(plain.net, p, plain.tables[p][name]) for p in plain.net.programs if name in plain.tables[p]
            }
            self.assertEqual(list(led.where(name).items()), list(days.items()))
            self.assertIs(led.agrees(name), len(set(days.values())) < 2)

    def assert_fails(self, led, error, value, deed, *arguments):
        """The deed raises its error, changes nothing, and does not count."""
        before = seen(led)
        with self.assertRaises(error) as caught:
            getattr(led, deed)(*arguments)
        field = list(vars(caught.exception).values())
        self.assertTrue(field == [value] if isinstance(value, (str, int)) and value is not True else field[0] is value)
        self.assertEqual(seen(led), before)


class ExampleTest(unittest.TestCase):

    def test_example_by_hand(self):
        led = Led(N)
        self.assertIsNone(led.put("phone", "trip", DAY))
        self.assertIsNone(led.rounds(1))
        self.assertEqual(led.held("desk", "trip"), Entry("fixed 14400 to 15839"))
        self.assertEqual(led.held("phone", "trip"), DAY)
        other = Led(N)
        other.put("phone", "trip", DAY)
        other.rounds(2)
        self.assertEqual(other.held("phone", "trip"), Entry("day 9 to 10"))
        self.assertEqual(other.held("desk", "trip"), Entry("fixed 12960 to 15839"))
        led.rounds(999)
        self.assertEqual(led.page("phone"), ((-989, 10, "trip"),))
        self.assertEqual(led.held("desk", "trip"), Entry("fixed -1424160 to 15839"))
        self.assertEqual(led.where("trip"), {"desk": (-989, 10), "phone": (-989, 10)})
        self.assertEqual(led.deeds, 3)
        with self.assertRaises(NotHeld) as caught:
            led.all_of([("erase", "desk", "trip"), ("erase", "desk", "trip")])
        self.assertEqual(caught.exception.name, "trip")
        self.assertEqual(led.held("desk", "trip"), Entry("fixed -1424160 to 15839"))
        self.assertEqual(led.deeds, 3)
        with self.assertRaises(BadDeed) as caught:
            led.all_of([("erase", "desk")])
        self.assertEqual(caught.exception.index, 0)


class DeedsTest(Leading):

    def test_nothing_is_held_at_first(self):
        led = Led(N)
        self.assertIs(led.current, N)
        self.assertEqual(led.deeds, 0)
        self.assertEqual([led.listed("desk"), led.page("phone"), led.where("trip"), led.agrees("trip")], [(), (), {}, True])
        with self.assertRaises(NothingToUndo):
            led.undo()
        empty = Led(Net(""))
        empty.rounds(MANY)
        empty.all_of([])
        self.assertEqual(empty.deeds, 2)

    def test_put_and_erase_and_send(self):
        led = Led(N)
        led.put("phone", "trip", DAY)
        led.put("phone", "trip", FLOAT)
        led.put("phone", "call", Entry("fixed 100 to 200"))
        self.assertEqual(led.listed("phone"), ("call", "trip"))
        self.assertEqual(led.page("phone"), ((-1, -1, "call"), (0, 0, "trip")))
        self.assertEqual(led.held("phone", "trip"), FLOAT)
        self.assertIsNone(led.send("phone", "desk", "call"))
        self.assertEqual(led.held("desk", "call"), Entry("fixed 100 to 200"))
        self.assertEqual(led.where("call"), {"desk": (0, 0), "phone": (-1, -1)})
        self.assertIs(led.agrees("call"), False)
        self.assertIs(led.agrees("trip"), True)
        self.assertIsNone(led.erase("phone", "call"))
        self.assertEqual(led.where("call"), {"desk": (0, 0)})
        self.assertEqual((led.listed("phone"), led.deeds), (("trip",), 5))

    def test_what_is_told_is_new_each_time(self):
        led = Led(N)
        led.put("phone", "trip", DAY)
        told = led.where("trip")
        told["desk"] = 5
        self.assertEqual(led.where("trip"), {"phone": (10, 10)})

    def test_pages_are_sorted_by_their_days(self):
        led = Led(N)
        for name, text in (("b", "day 3 to 9"), ("a", "day 3 to 9"), ("c", "day -2 to 99"), ("d", "day 3 to 4")):
            led.put("phone", name, Entry(text))
        self.assertEqual(led.page("phone"), ((-2, 99, "c"), (3, 4, "d"), (3, 9, "a"), (3, 9, "b")))

    def test_turns(self):
        led = Led(N)
        led.put("phone", "trip", Entry("fixed 100 to 200"))
        led.put("phone", "call", Entry("zoned 0 to 1 west"))
        other = Net("zone west 60\nprogram tablet at west\nprogram phone at west\nroute phone tablet")
        self.assertIsNone(led.turn(other))
        self.assertIs(led.current, other)
        self.assertEqual(led.page("phone"), ((0, 0, "call"), (0, 0, "trip")))
        led.rounds(1)
        self.assertEqual(list(led.where("trip")), ["tablet", "phone"])
        with self.assertRaises(NoProgram):
            led.listed("desk")
        led.undo()
        led.undo()
        self.assertIs(led.current, N)
        self.assertEqual(led.page("phone"), ((-1, -1, "trip"), (0, 0, "call")))

    def test_turns_that_cannot_be(self):
        led = Led(N.with_zone("x", 0).with_zone("y", 0).with_program("tablet", "x"))
        led.put("tablet", "a", Entry("zoned 0 to 1 y"))
        led.put("phone", "b", Entry("zoned 0 to 1 x"))
        led.put("phone", "a", Entry("zoned 0 to 1 y"))
        led.put("phone", "c", DAY)
        self.assert_fails(led, NoProgram, "phone", "turn", Net(""))
        self.assert_fails(led, NoProgram, "tablet", "turn", N)
        self.assert_fails(led, NoProgram, "tablet", "turn", N.with_zone("x", 0))
        more = N.with_program("tablet", "west")
        self.assert_fails(led, NoZone, "y", "turn", more)
        self.assert_fails(led, NoZone, "x", "turn", more.with_zone("y", 1))
        led.erase("phone", "a")
        self.assert_fails(led, NoZone, "x", "turn", more)
        led.erase("phone", "b")
        self.assert_fails(led, NoZone, "y", "turn", more.with_zone("x", 1))
        led.erase("tablet", "a")
        # A program that holds nothing any more need not be in the other net.
        led.turn(Net("zone z 5\nprogram phone at z"))
        self.assertEqual(led.page("phone"), ((10, 10, "c"),))

    def test_rounds_go_along_the_routes_in_their_order(self):
        for routes, many in ((RINGS[0], 1), (RINGS[1], 3)):
            led = Led(Net(HEAD + routes))
            led.put("a", "trip", DAY)
            led.rounds(many)
            self.assertEqual(list(led.where("trip")), ["a", "b", "c", "d"])
        led = Led(Net(HEAD + RINGS[1]))
        led.put("a", "trip", DAY)
        led.rounds(1)
        self.assertEqual(list(led.where("trip")), ["a", "b"])

    def test_no_rounds_and_no_names(self):
        led = Led(N)
        led.rounds(MANY)
        led.put("phone", "trip", DAY)
        led.rounds(0)
        self.assertEqual((led.where("trip"), led.deeds), ({"phone": (10, 10)}, 3))

    def test_rounds_one_by_one(self):
        rng = random.Random(46)
        for turn in range(120):
            net = rng.choice([
                turning_net(rng, routes=rng.randint(0, 9)), random_net(rng, step=60, routes=rng.randint(0, 9)),
                Net(HEAD + RINGS[turn % len(RINGS)]),
            ])
            led, plain = Led(net), Plain(net)
            for name in rng.sample(["a", "b", "trip", "call"], rng.randint(1, 3)):
                for p in rng.sample(net.programs, rng.randint(1, 2)):
                    entry = random_entry(rng, net)
                    led.put(p, name, entry)
                    plain.tables[p][name] = held(entry)
            self.assert_holds(led, plain)
            for many in (1, 0, 2, rng.randint(3, 40)):
                led.rounds(many)
                for _ in range(many):
                    plain.round()
                self.assert_holds(led, plain)

    def test_rounds_of_thirty_digits(self):
        rng = random.Random(47)
        for turn in range(60):
            net = rng.choice([turning_net(rng), random_net(rng, step=7), Net(HEAD + RINGS[turn % len(RINGS)])])
            led = Led(net)
            for name in ("a", "b"):
                led.put(rng.choice(net.programs), name, random_entry(rng, net))
            led.rounds(MANY)
            late = all_held(led)
            led.undo()
            some = rng.choice([1, 2, 5, 12, 13, rng.randint(0, MANY)])
            led.rounds(some)
            led.rounds(MANY - some)
            self.assertEqual(all_held(led), late)
        led = Led(N)
        led.put("phone", "trip", DAY)
        led.rounds(MANY)
        self.assertEqual(led.where("trip"), {"desk": (11 - MANY, 10), "phone": (11 - MANY, 10)})

    def test_many_programs_routes_and_names(self):
        rng = random.Random(48)
        names = "abcdefghijkl"
        lines = [f"zone {zone} {offset}" for zone, offset in zip("uvwxyz", (-840, -299, 0, 1, 60, 840))]
        rules = ["", "\n  day -> zoned 0 1439\n  zoned -> home day", "\n  fixed -> zoned", "\n  zoned -> fixed", "\n  zoned -> moved"]
        lines += [f"program {name} at {rng.choice('uvwxyz')}{rng.choice(rules)}" for name in names]
        pairs = [(one, other) for one in names for other in names]
        lines += [f"route {one} {other}" for one, other in rng.sample(pairs, 40)]
        net = Net("\n".join(lines))
        led, plain = Led(net), Plain(net)
        for one in "abcdefgh":
            for other in "abcdefgh":
                p, entry = rng.choice(names), random_entry(rng, net)
                led.put(p, one + other, entry)
                plain.tables[p][one + other] = held(entry)
        for many in (1, 1, 7):
            led.rounds(many)
            for _ in range(many):
                plain.round()
            self.assert_holds(led, plain)
        led.rounds(MANY)
        self.assertEqual(led.deeds, 68)


class UndoTest(Leading):

    def random_deed(self, rng, led, plain):
        """The word and the arguments of a deed, and what is held behind it; now and then it does not change anything."""
        net = plain.net
        after = plain.copy()
        p, q, name = rng.choice(net.programs), rng.choice(net.programs), rng.choice(["a", "b", "trip"])
        word = rng.choice(["put", "put", "erase", "send", "rounds", "turn"])
        if word == "erase" and name in plain.tables[p]:
            del after.tables[p][name]
            return (word, p, name), after
        if word == "send" and name in plain.tables[p] and (p, q) in net.routes:
            after.tables[q][name] = plain_copy(net, q, plain.tables[p][name])
            return (word, p, q, name), after
        if word == "rounds":
            many = rng.randint(0, 6)
            for _ in range(many):
                after.round()
            return (word, many), after
        if word == "turn":
            after.net = rng.choice([
                net.with_offset(rng.choice(net.zones), 360), net.with_rule(p, "fixed", "day"), net,
                net if (p, q) in net.routes else net.with_route(p, q),
            ])
            return (word, after.net), after
        entry = random_entry(rng, net)
        after.tables[p][name] = held(entry)
        return ("put", p, name, entry), after

    def test_deeds_are_taken_back_one_by_one(self):
        rng = random.Random(49)
        for turn in range(60):
            net = turning_net(rng) if turn % 2 else random_net(rng)
            led, states = Led(net), [Plain(net)]
            for _ in range(25):
                if rng.random() < 0.25 and len(states) > 1:
                    self.assertIsNone(led.undo())
                    states.pop()
                elif rng.random() < 0.3:
                    deeds, after = [], states[-1]
                    for _ in range(rng.randint(0, 4)):
                        deed, after = self.random_deed(rng, led, after)
                        deeds.append(rng.choice([tuple, list])(deed))
                    self.assertIsNone(led.all_of(rng.choice([tuple, list])(deeds)))
                    states.append(after.copy())
                else:
                    (word, *arguments), after = self.random_deed(rng, led, states[-1])
                    self.assertIsNone(getattr(led, word)(*arguments))
                    states.append(after)
                self.assertEqual(led.deeds, len(states) - 1)
                self.assert_holds(led, states[-1])
            while len(states) > 1:
                led.undo()
                states.pop()
                self.assert_holds(led, states[-1])
            with self.assertRaises(NothingToUndo):
                led.undo()

    def test_deeds_that_change_nothing_count(self):
        led = Led(N)
        led.put("phone", "trip", DAY)
        led.put("phone", "trip", DAY)
        led.rounds(0)
        led.turn(N)
        led.all_of([])
        led.all_of([("rounds", 0), ["turn", N]])
        self.assertEqual(led.deeds, 6)
        for many in range(5, 0, -1):
            led.undo()
            self.assertEqual((led.deeds, led.listed("phone")), (many, ("trip",)))
        led.undo()
        self.assertEqual((led.deeds, led.listed("phone")), (0, ()))

    def test_all_of_is_one_deed(self):
        led = Led(N)
        led.put("phone", "trip", DAY)
        before = all_held(led)
        other = N.with_program("tablet", "west").with_route("desk", "tablet")
        led.all_of([
            ("send", "phone", "desk", "trip"), ["erase", "phone", "trip"], ("turn", other), ("rounds", MANY),
            ("put", "tablet", "call", FLOAT), ("send", "desk", "tablet", "trip"),
        ])
        self.assertEqual(led.deeds, 2)
        self.assertEqual(led.listed("tablet"), ("call", "trip"))
        self.assertEqual(led.listed("phone"), ("trip",))
        led.undo()
        self.assertEqual((all_held(led), led.current, led.deeds), (before, N, 1))

    def test_all_of_that_fails_leaves_all_as_it_was(self):
        rng = random.Random(50)
        wrong = [
            (("put", "phone", "Trip", DAY), BadName, "Trip"), (("put", "nobody", "x", DAY), NoProgram, "nobody"),
            (("put", "phone", "x", 5), BadEntry, 5), (("put", "phone", "x", EAST), NoZone, "east"),
            (("erase", "phone", "x"), NotHeld, "x"), (("send", "phone", "phone", "trip"), NoRoute, 1),
            (("send", "phone", "desk", "x"), NotHeld, "x"), (("rounds", -1), BadNumber, -1),
            (("turn", Net("zone a 0\nprogram phone at a")), NoProgram, "desk"),
        ]
        for deed, error, value in wrong:
            for _ in range(4):
                led = Led(N)
                led.put("phone", "trip", DAY)
                led.rounds(2)
                good = rng.sample([("rounds", 3), ("erase", "phone", "trip"), ("put", "desk", "y", FLOAT), ("turn", N.with_offset("here", 9)),
                                   ("send", "desk", "phone", "trip"), ("put", "desk", "trip", FLOAT)], 3)
                self.assert_fails(led, error, value, "all_of", [*good, deed, ("put", "phone", "z", DAY)])
                led.undo()
                self.assertEqual(led.where("trip"), {"phone": (10, 10)})
                led.undo()
                self.assertEqual((led.deeds, led.where("trip")), (0, {}))


class ErrorsTest(Leading):

    def leading(self):
        led = Led(N)
        led.put("phone", "trip", DAY)
        led.rounds(1)
        led.erase("phone", "trip")
        return led

    def test_programs(self):
        led = self.leading()
        for value in no_names() + ["zzz", "here", "trip"]:
            for name in ("trip", value):
                self.assert_fails(led, NoProgram, value, "put", value, name, None)
                self.assert_fails(led, NoProgram, value, "erase", value, name)
                self.assert_fails(led, NoProgram, value, "held", value, name)
                for q in ("desk", value):
                    self.assert_fails(led, NoProgram, value, "send", value, q, name)
                self.assert_fails(led, NoProgram, value, "send", "desk", value, name)
            self.assert_fails(led, NoProgram, value, "listed", value)
            self.assert_fails(led, NoProgram, value, "page", value)

    def test_names(self):
        led = self.leading()
        for value in no_names():
            for entry in (DAY, None, EAST):
                self.assert_fails(led, BadName, value, "put", "desk", value, entry)
        for value in no_names() + ["call", "desk"]:
            self.assert_fails(led, NotHeld, value, "erase", "desk", value)
            self.assert_fails(led, NotHeld, value, "held", "desk", value)
            self.assert_fails(led, NotHeld, value, "send", "desk", "phone", value)
            self.assert_fails(led, NoRoute, 1, "send", "desk", "desk", value)
            self.assertEqual(led.where(value), {})
            self.assertIs(led.agrees(value), True)
        self.assert_fails(led, NotHeld, "trip", "held", "phone", "trip")
        self.assert_fails(led, NoRoute, 1, "send", "phone", "phone", "trip")

    def test_entries(self):
        led = self.leading()
        for value in odd_values() + [5, "day 1 to 2", N]:
            self.assert_fails(led, BadEntry, value, "put", "desk", "call", value)
        self.assert_fails(led, NoZone, "east", "put", "desk", "trip", EAST)

    def test_numbers_of_rounds(self):
        led = self.leading()
        for value in [*odd_values(), -1, MANY + 1, "1", ""]:
            self.assert_fails(led, BadNumber, value, "rounds", value)
        led.rounds(MANY)

    def test_members_that_are_no_deeds(self):
        led = self.leading()
        good = ("put", "phone", "call", DAY)
        wrong = odd_values() + [5, "put", "erase", "undo", ("undo",), ("all_of", []), ("held", "desk", "trip"), ("put",), ["rounds"]]
        wrong += [(*good, 1), good[:3], ("erase", "desk", "trip", 1), ("send", "desk", "phone"), ("turn",), ("turn", N, N),
                  ("rounds", 1, 2), ("Put", "phone", "call", DAY), (b"put", "phone", "call", DAY), {"rounds": 1}, "ab"]
        wrong += [(value, 1) for value in odd_values()]
        for value in wrong:
            for deeds, index in (([value], 0), ([good, ("erase", "zzz", 5), value, 7], 2), ((good, value, good), 1)):
                self.assert_fails(led, BadDeed, index, "all_of", deeds)
        with self.assertRaises(WhosedayError):
            led.all_of([good, ("erase", "zzz", 5)])
        self.assertEqual(led.listed("phone"), ())


if __name__ == "__main__":
    unittest.main()

"""Point 45: what is held behind a walk that is gone along many times."""

import random
import unittest

from tests.plain import held, plain_along, random_entry, random_net, text_of, turning_net
from tests.test_states import DAY, N, is_same
from tests.test_spans import M
from tests.values import no_names, odd_values
from whoseday.copies import along, carried
from whoseday.entries import Entry
from whoseday.errors import BadNumber, NoProgram, NoRoute, NotARing, NoZone
from whoseday.laps import lapped
from whoseday.nets import Net

RING = ("phone", "desk", "phone")
MANY = 10 ** 30
EAST = Entry("zoned 0 to 0 east")


def plain_laps(net, walk, many, entry):
    now = held(entry)
    for _ in range(many):
        now = plain_along(net, walk, now)[-1]
    return Entry(text_of(*now))


def random_ring(rng, net, most):
    """A walk that leads back to where it begins, or None."""
    walk = [rng.choice(net.programs)]
    for _ in range(most):
        goals = net.targets_of(walk[-1])
        if not goals:
            return None
        walk.append(rng.choice(goals))
        if walk[-1] == walk[0] and rng.random() < 0.5:
            return tuple(walk)
    return tuple(walk) if walk[0] == walk[-1] else None


class LapsTest(unittest.TestCase):

    def test_example_by_hand(self):
        late = lapped(N, RING, MANY, DAY)
        self.assertIsInstance(late, Entry)
        self.assertEqual((late.kind, late.first, late.last, late.zone), ("day", 10 - MANY, 10, None))

    def test_laps_without_roundings(self):
        entry = Entry("float 600 to 659")
        for many in (0, 1, 2, 23, 24, 25, 999):
            self.assertEqual(lapped(M, ("a", "b", "a"), many, entry), plain_laps(M, ("a", "b", "a"), many, entry))
        late = lapped(M, ["a", "b", "a"], MANY, entry)
        self.assertEqual((late.first, late.last), (600 + 300 * MANY, 659 + 300 * MANY))
        self.assertEqual(len(late.text.split(" ")[1]), 33)

    def test_many_0_is_the_entry(self):
        rng = random.Random(45)
        for _ in range(60):
            net = random_net(rng)
            walk = random_ring(rng, net, 8)
            if walk is not None:
                entry = random_entry(rng, net)
                self.assertEqual(lapped(net, walk, 0, entry), entry)
                self.assertEqual(lapped(net, walk, 1, entry), carried(net, walk, entry))

    def test_laps_gone_along_one_by_one(self):
        rng = random.Random(46)
        kinds = {}
        for turn in range(900):
            net = turning_net(rng) if turn % 2 else random_net(rng, step=rng.choice([60, 7, 360]))
            walk = random_ring(rng, net, 9)
            if walk is not None:
                entry, many = random_entry(rng, net), rng.randint(0, 40)
                late = lapped(net, rng.choice([tuple, list])(walk), many, entry)
                self.assertEqual(late, plain_laps(net, walk, many, entry))
                kinds[entry.kind, late.kind] = True
        self.assertGreater(len(kinds), 9, kinds)

    def test_many_laps_are_some_laps_and_then_others(self):
        rng = random.Random(47)
        for turn in range(300):
            net = turning_net(rng) if turn % 2 else random_net(rng, step=11)
            walk = random_ring(rng, net, 9)
            if walk is not None:
                entry = random_entry(rng, net)
                some = rng.choice([rng.randint(0, MANY), rng.randint(0, 9), 10 ** 29])
                late = lapped(net, walk, MANY, entry)
                self.assertEqual(lapped(net, walk, MANY - some, lapped(net, walk, some, entry)), late)

    def test_forms_that_change_from_lap_to_lap(self):
        # A day becomes a clock of the west, that one of the east, that one a moment, and this one a day.
        net = Net(
            "zone west -300\nzone east 200\nprogram p at west\n  day -> zoned 60 90\n  zoned -> keep\n  fixed -> day\n"
            "program q at east\n  zoned -> moved\n  float -> fixed\nprogram r at west\n  zoned -> fixed\nroute p q\nroute q p\nroute p p\n"
            "route q r\nroute r p"
        )
        for walk in (("p", "q", "p"), ("p", "p"), ("p", "q", "r", "p"), ("p", "p", "q", "p", "q", "r", "p")):
            for text in ("day 3 to 4", "zoned 0 to 2000 west", "fixed -1 to 1440", "float 5 to 6"):
                for many in range(12):
                    self.assertEqual(lapped(net, walk, many, Entry(text)), plain_laps(net, walk, many, Entry(text)))

    def test_days_of_thirty_digits(self):
        entry = Entry(f"day {-MANY + 1} to {MANY - 1}")
        late = lapped(N, RING, MANY, entry)
        self.assertEqual((late.first, late.last), (-2 * MANY + 1, MANY - 1))
        # What is told may be asked about again, though its numbers have more digits.
        again = lapped(N, RING, 5, late)
        self.assertEqual((again.first, again.last), (late.first - 5, MANY - 1))

    def test_a_walk_with_many_names(self):
        walk = ("phone", "desk") * 2000 + ("phone",)
        self.assertEqual(lapped(N, walk, MANY, DAY).first, 10 - 2000 * MANY)
        self.assertEqual(lapped(N, walk, 1, DAY), along(N, walk, DAY)[-1])


class ErrorsTest(unittest.TestCase):

    def test_errors_in_their_order(self):
        for value in no_names() + ["zzz", "here"]:
            for walk in ((value,), ("phone", value), ["phone", "phone", value, None]):
                for entry, many in ((DAY, 1), (EAST, value)):
                    with self.assertRaises(NoProgram) as caught:
                        lapped(N, walk, many, entry)
                    self.assertTrue(is_same(caught.exception.name, value))
        for walk, index in (((), 0), ([], 0), (("phone", "phone"), 1), (("phone", "desk", "desk", "phone"), 2)):
            for entry, many in ((DAY, 1), (EAST, None)):
                with self.assertRaises(NoRoute) as caught:
                    lapped(N, walk, many, entry)
                self.assertEqual(caught.exception.index, index)
        for walk in (("phone",), ["phone", "desk"], RING):
            for many in (0, None):
                with self.assertRaises(NoZone) as caught:
                    lapped(N, walk, many, EAST)
                self.assertEqual(caught.exception.name, "east")
        for walk in (("phone",), ["phone"], ("phone", "desk"), ["phone", "desk", "phone", "desk"]):
            for many in (0, 1, -1, None):
                with self.assertRaises(NotARing) as caught:
                    lapped(N, walk, many, DAY)
                self.assertEqual(caught.exception.names, tuple(walk))
                self.assertIs(type(caught.exception.names), tuple)

    def test_numbers(self):
        for value in [*odd_values(), -1, MANY + 1, -10 ** 5000, 10 ** 5000, "1", ""]:
            with self.assertRaises(BadNumber) as caught:
                lapped(N, RING, value, DAY)
            self.assertIs(caught.exception.number, value)
        for many in (0, 1, MANY - 1, MANY):
            self.assertEqual(lapped(N, RING, many, DAY).first, 10 - many)


if __name__ == "__main__":
    unittest.main()

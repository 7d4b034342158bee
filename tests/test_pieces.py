"""Points 17 and 18: sets of days."""

import random
import unittest

from tests.values import odd_values
from whoseday.errors import BadNumber, BadPiece
from whoseday.pieces import Days

GREAT = 10 ** 30
WORDS = ["one", "up", "down", "every"]


def within(pieces, low, high):
    """The members from low to high, told piece by piece."""
    found = set()
    for word, start, *rest in pieces:
        for day in range(low, high + 1):
            if word == "one":
                inside = day == start
            else:
                inside = (day - start) % rest[0] == 0
                inside = inside and not (word == "up" and day < start) and not (word == "down" and day > start)
            if inside:
                found.add(day)
    return found


def random_pieces(rng, many, reach=20, steps=9):
    found = []
    for _ in range(many):
        word = rng.choice(WORDS)
        start = rng.randint(-reach, reach)
        found.append((word, start) if word == "one" else (word, start, rng.randint(1, steps)))
    return found


class PiecesTest(unittest.TestCase):

    def test_pieces_are_kept_as_tuples(self):
        given = [["one", 3], ("up", -1, 2), ["down", 0, 1], ("every", 5, 7), ("one", 3)]
        days = Days(given)
        wanted = (("one", 3), ("up", -1, 2), ("down", 0, 1), ("every", 5, 7), ("one", 3))
        self.assertEqual(days.pieces, wanted)
        self.assertTrue(all(type(piece) is tuple for piece in days.pieces))
        self.assertEqual(Days(tuple(given)).pieces, wanted)
        self.assertIn("pieces", vars(days))

    def test_pieces_that_are_changed_behind_it(self):
        inner = ["up", 4, 2]
        given = [inner, ("one", 1)]
        days = Days(given)
        inner[1] = 100
        given.append(("one", 7))
        self.assertEqual(days.pieces, (("up", 4, 2), ("one", 1)))
        self.assertEqual([day for day in range(-5, 10) if day in days], [1, 4, 6, 8])
        self.assertEqual(days.least, 1)

    def test_bad_pieces(self):
        good = [("one", 3), ["up", 1, 1]]
        wrong = odd_values() + [
            0, 5, "one", "up", "", (), [], ("one",), ("one", 1, 1), ("up", 1), ("up", 1, 2, 3), ("up", 1, 0),
            ("up", 1, -1), ("down", 1, 0), ("every", 1, 0), ("every", 1, -5), ("One", 1), ("two", 1), ("", 1),
            ("up ", 1, 1), (1, 1), (None, 1), (["one"], 1), ({}, 1), (("one",), 1), "on", {"one": 1, "up": 2},
            [["one", 1]], (b"one", 1), ("one", "1"),
        ]
        for value in odd_values():
            wrong += [("one", value), ["up", value, 1], ("up", 1, value), ("down", value, 2), ["every", 1, value], (value, 1)]
        for value in wrong:
            for pieces, index in [([value], 0), ([*good, value], 2), ([good[0], value, good[1], value], 1)]:
                with self.assertRaises(BadPiece) as caught:
                    Days(pieces)
                self.assertEqual(caught.exception.index, index)

    def test_no_pieces(self):
        for none in (Days([]), Days(())):
            self.assertEqual(none.pieces, ())
            self.assertNotIn(0, none)
            self.assertEqual((none.least, none.greatest), (None, None))
            self.assertIs(none.goes_up, False)
            self.assertIs(none.goes_down, False)
            self.assertEqual((none.next_from(0), none.next_to(0)), (None, None))
            for other in (none, Days([("one", 1)]), Days([("every", 0, 1)])):
                self.assertIs(Days.same(none + other, none, -100, 100), True)
                self.assertIs(Days.same(other + none, none, -100, 100), True)
                self.assertIs(Days.same(other | none, other, -100, 100), True)
            self.assertEqual(none.moved(5).pieces, ())

    def test_membership_for_any_value(self):
        for days in (Days([("every", 0, 1)]), Days([("one", 1), ("one", 0)]), Days([])):
            for value in odd_values() + ["0", "", ("one", 1)]:
                self.assertIs(value in days, False)
        for word in ("up", "down", "every"):
            self.assertIs(GREAT * 6 in Days([(word, 0, 3)]), word != "down")
            self.assertIs(-GREAT * 6 in Days([(word, 0, 3)]), word != "up")
            self.assertIs(GREAT * 6 + 1 in Days([(word, 0, 3)]), False)

    def test_each_word(self):
        self.assertEqual([day for day in range(-9, 10) if day in Days([("one", -4)])], [-4])
        self.assertEqual([day for day in range(-9, 10) if day in Days([("up", -4, 5)])], [-4, 1, 6])
        self.assertEqual([day for day in range(-9, 10) if day in Days([("down", 4, 5)])], [-6, -1, 4])
        self.assertEqual([day for day in range(-9, 10) if day in Days([("every", 7, 5)])], [-8, -3, 2, 7])

    def test_ends(self):
        for pieces, told in [
            ([("one", 3), ("one", -3), ("one", 0)], (-3, 3, False, False)),
            ([("up", 3, 2), ("one", 1)], (1, None, False, True)),
            ([("up", 3, 2), ("one", 4)], (3, None, False, True)),
            ([("down", 3, 2), ("one", 8), ("down", 7, 1)], (None, 8, True, False)),
            ([("down", 3, 2), ("one", 1)], (None, 3, True, False)),
            ([("down", 3, 2), ("up", 9, 1)], (None, None, True, True)),
            ([("every", 3, 2), ("one", 0)], (None, None, True, True)),
            ([("up", -GREAT, 1)], (-GREAT, None, False, True)),
        ]:
            days = Days(pieces)
            self.assertEqual((days.least, days.greatest, days.goes_down, days.goes_up), told)
            self.assertIs(type(days.goes_up), bool)
            self.assertIs(type(days.goes_down), bool)

    def test_next_ones_far_away(self):
        days = Days([("up", 5, 7), ("down", 2, 3)])
        self.assertEqual(days.next_from(7 * GREAT), 7 * GREAT + 5)
        self.assertEqual(days.next_to(7 * GREAT), 7 * GREAT - 2)
        self.assertEqual(days.next_to(-3 * GREAT), -3 * GREAT - 1)
        self.assertEqual(days.next_from(-3 * GREAT), -3 * GREAT + 2)
        self.assertEqual(days.next_from(3), 5)
        self.assertEqual(days.next_to(4), 2)
        self.assertIsNone(Days([("down", 2, 3)]).next_from(3))
        self.assertEqual(Days([("down", 2, 3)]).next_from(2), 2)
        self.assertIsNone(Days([("up", 2, 3)]).next_to(1))
        self.assertEqual(Days([("up", 2, GREAT)]).next_from(3), 2 + GREAT)
        self.assertIsNone(Days([("one", 2)]).next_from(3))
        self.assertIsNone(Days([("one", 2)]).next_to(1))

    def test_against_sets_told_piece_by_piece(self):
        rng = random.Random(17)
        for _ in range(150):
            pieces = random_pieces(rng, rng.randint(0, 4))
            days = Days(pieces)
            found = within(pieces, -80, 80)
            self.assertEqual({day for day in range(-80, 81) if day in days}, found)
            for low in range(-40, 41):
                self.assertEqual(days.next_from(low), min([day for day in found if day >= low], default=None))
                self.assertEqual(days.next_to(low), max([day for day in found if day <= low], default=None))
            if not days.goes_down:
                self.assertEqual(days.least, min(found, default=None))
            if not days.goes_up:
                self.assertEqual(days.greatest, max(found, default=None))


class SumsTest(unittest.TestCase):

    def assert_sums(self, one, other, reach):
        """Sums within reach of the least starts, against all sums of members far beyond it."""
        wide = within(one, -reach * 4, reach * 4), within(other, -reach * 4, reach * 4)
        wanted = {mine + yours for mine in wide[0] for yours in wide[1] if abs(mine + yours) <= reach}
        for total in (Days(one) + Days(other), Days(other) + Days(one)):
            self.assertEqual({day for day in range(-reach, reach + 1) if day in total}, wanted, (one, other))
            self.assertEqual(within(total.pieces, -reach, reach), wanted)

    def test_sums_of_each_pair_of_words(self):
        for one in WORDS:
            for other in WORDS:
                mine = [(one, 2)] if one == "one" else [(one, 2, 6)]
                yours = [(other, 1)] if other == "one" else [(other, 1, 4)]
                self.assert_sums(mine, yours, 60)

    def test_sums_against_all_sums(self):
        rng = random.Random(18)
        for _ in range(60):
            self.assert_sums(random_pieces(rng, rng.randint(0, 3)), random_pieces(rng, rng.randint(0, 3)), 60)

    def test_example_of_the_document(self):
        total = Days([("up", 2, 6)]) + Days([("up", 1, 4)])
        self.assertEqual([day for day in range(14) if day in total], [3, 7, 9, 11, 13])
        self.assertTrue(all((day in total) == (day % 2 == 1) for day in range(12, 400)))
        self.assertNotIn(5, total)
        self.assertEqual(total.least, 3)

    def test_fact_of_the_document(self):
        rng = random.Random(19)
        for _ in range(30):
            a, b, s, t = rng.randint(-30, 30), rng.randint(-30, 30), rng.randint(1, 40), rng.randint(1, 40)
            g = max(number for number in range(1, 41) if s % number == 0 and t % number == 0)
            wanted = Days([("up", a + b + k * t, s) for k in range(s // g)])
            self.assertTrue(Days.same(Days([("up", a, s)]) + Days([("up", b, t)]), wanted, -100, 3000))
            self.assertTrue(Days.same(
                Days([("down", -a, s)]) + Days([("down", -b, t)]), Days([("down", -x, s) for _, x, _ in wanted.pieces]),
                -3000, 100,
            ))
            both = Days([("up", a, s)]) + Days([("down", b, t)])
            self.assertTrue(Days.same(both, Days([("every", a + b, g)]), -3000, 3000))

    def test_many_pieces_with_great_steps(self):
        rng = random.Random(20)
        mine = [("up", rng.randint(-50, 50), step) for step in range(901, 1001)]
        yours = [("up", rng.randint(-50, 50), step) for step in range(901, 1001)]
        total = Days(mine) + Days(yours)
        far = 6000
        reach = [day for day in range(-100, far) if day in Days(mine)], [day for day in range(-100, far) if day in Days(yours)]
        wanted = {one + other for one in reach[0] for other in reach[1] if one + other < far - 100}
        self.assertEqual({day for day in range(-200, far - 100) if day in total}, wanted)
        self.assertEqual(total.least, min(wanted))
        self.assertTrue(all(day in total for day in range(10 ** 6, 10 ** 6 + 100)))
        self.assertTrue(Days.same(total, total.moved(3).moved(-3), 0, 10000))
        self.assertEqual(total.next_from(10 ** 40), 10 ** 40)

    def test_many_pieces_of_all_words(self):
        rng = random.Random(21)
        mine = random_pieces(rng, 100, 1000, 1000)
        yours = random_pieces(rng, 100, 1000, 1000)
        self.assertEqual(len(Days(mine).pieces), 100)
        total = Days(mine) + Days(yours)
        low, high = within(mine, -3000, 3000), within(yours, -3000, 3000)
        for _ in range(300):
            self.assertIn(rng.choice(sorted(low)) + rng.choice(sorted(high)), total)

    def test_steps_at_their_bound(self):
        total = Days([("up", 0, 1000)]) + Days([("up", 0, 999)])
        self.assertNotIn(998000 - 999, total)
        self.assertNotIn(999 * 1000 - 999 - 1000, total)
        self.assertTrue(all(day in total for day in range(998 * 999, 998 * 999 + 3000)))
        self.assertEqual([day for day in range(3001) if day in total],
                         [0, 999, 1000, 1998, 1999, 2000, 2997, 2998, 2999, 3000])
        apart = Days([("down", 7, 1000)]) + Days([("down", 0, 500)])
        self.assertTrue(Days.same(apart, Days([("down", 7, 500)]), -9000, 1000))

    def test_unions(self):
        rng = random.Random(22)
        for _ in range(50):
            one, other = random_pieces(rng, rng.randint(0, 3)), random_pieces(rng, rng.randint(0, 3))
            both = Days(one) | Days(other)
            wanted = within(one, -60, 60) | within(other, -60, 60)
            self.assertEqual({day for day in range(-60, 61) if day in both}, wanted)
            self.assertEqual(within(both.pieces, -60, 60), wanted)

    def test_moved_sets(self):
        rng = random.Random(23)
        for many in (0, 1, -17, 10 ** 31, -10 ** 31):
            for _ in range(20):
                pieces = random_pieces(rng, rng.randint(0, 4))
                moved = Days(pieces).moved(many)
                wanted = {day + many for day in within(pieces, -60, 60)}
                self.assertEqual({day for day in range(many - 60, many + 61) if day in moved}, wanted)
                self.assertEqual(Days(pieces).pieces, tuple(pieces))

    def test_operators_leave_sets_as_they_are(self):
        one, other = Days([("up", 2, 6)]), Days([["down", 1, 4], ["one", 3]])
        for made in (one + other, one | other, other + one, one.moved(1)):
            self.assertIsInstance(made, Days)
        self.assertEqual(one.pieces, (("up", 2, 6),))
        self.assertEqual(other.pieces, (("down", 1, 4), ("one", 3)))


class SameTest(unittest.TestCase):

    def test_same(self):
        one, other = Days([("up", 0, 2), ("one", -5)]), Days([("every", 0, 2)])
        self.assertIs(Days.same(one, other, 0, 10000), True)
        self.assertIs(Days.same(one, other, -1, 5), True)
        self.assertIs(Days.same(one, other, -2, 5), False)
        self.assertIs(Days.same(one, other, -5, -5), False)
        self.assertIs(Days.same(one, other, -7, -7), True)
        self.assertIs(Days.same(one, other, -2, -2), False)
        self.assertIs(Days.same(one, Days([("up", 0, 2), ("one", 9999)]), 0, 9998), True)
        self.assertIs(Days.same(one, Days([("up", 0, 2), ("one", 9999)]), 0, 9999), False)
        self.assertIs(Days.same(one, other, GREAT, GREAT + 10000), True)

    def test_high_below_low(self):
        self.assertIs(Days.same(Days([("every", 0, 1)]), Days([]), 1, 0), True)
        self.assertIs(Days.same(Days([("every", 0, 1)]), Days([]), GREAT, -GREAT), True)

    def test_errors(self):
        days = Days([("one", 0)])
        for value in odd_values() + ["0"]:
            for other in (0, value, None):
                with self.assertRaises(BadNumber) as caught:
                    Days.same(days, days, value, other)
                self.assertIs(caught.exception.number, value)
            with self.assertRaises(BadNumber) as caught:
                Days.same(days, days, 0, value)
            self.assertIs(caught.exception.number, value)
        for low, high in [(0, 10001), (-10 ** 31, 10 ** 31), (5, 10006)]:
            with self.assertRaises(BadNumber) as caught:
                Days.same(days, days, low, high)
            self.assertEqual(caught.exception.number, high)
        self.assertIs(Days.same(days, days, 5, 10005), True)


if __name__ == "__main__":
    unittest.main()

"""Points 2 to 4: names and numbers in texts, days and minutes, entries."""

import re
import unittest

from tests.values import Same, Sulky, bent, integers, odd_values
from whoseday.entries import Entry
from whoseday.errors import BadText

NUMBER = r"(0|-?[1-9][0-9]{0,29})"
# Written anew here, by the words of point 4, to be held against the program.
ENTRY = re.compile(rf"(?:(?:day|float|fixed) {NUMBER} to {NUMBER}|zoned {NUMBER} to {NUMBER} [a-z]{{1,12}})")

GOOD = ["day 10 to 10", "float -200 to 400", "zoned 600 to 659 west", "fixed 14400 to 15839"]


def stands(text):
    found = ENTRY.fullmatch(text)
    if found is None:
        return False
    first, last = [int(part) for part in found.groups() if part is not None]
    return first <= last


class EntryTest(unittest.TestCase):

    def assert_bad(self, text):
        with self.assertRaises(BadText) as caught:
            Entry(text)
        self.assertEqual(caught.exception.line, 1)
        self.assertIs(type(caught.exception.line), int)

    def assert_parts(self, entry, kind, first, last, zone):
        self.assertEqual((entry.kind, entry.first, entry.last, entry.zone), (kind, first, last, zone))
        self.assertIs(type(entry.first), int)
        self.assertIs(type(entry.last), int)

    def test_attributes_of_all_kinds(self):
        self.assert_parts(Entry("day 10 to 12"), "day", 10, 12, None)
        self.assert_parts(Entry("float -200 to 400"), "float", -200, 400, None)
        self.assert_parts(Entry("zoned 600 to 659 west"), "zoned", 600, 659, "west")
        self.assert_parts(Entry("fixed -5 to -4"), "fixed", -5, -4, None)
        for text in GOOD:
            self.assertEqual(Entry(text).text, text)

    def test_attributes_are_set_on_the_object(self):
        found = vars(Entry("zoned 1 to 2 a"))
        for name in ["text", "kind", "first", "last", "zone"]:
            self.assertIn(name, found)

    def test_first_and_last_point(self):
        for kind, tail in [("day", ""), ("float", ""), ("zoned", " a"), ("fixed", "")]:
            with self.subTest(kind):
                self.assert_parts(Entry(f"{kind} 7 to 7{tail}"), kind, 7, 7, tail[1:] or None)
                self.assert_parts(Entry(f"{kind} -8 to -7{tail}"), kind, -8, -7, tail[1:] or None)
                self.assert_bad(f"{kind} 8 to 7{tail}")
                self.assert_bad(f"{kind} -7 to -8{tail}")
                self.assert_bad(f"{kind} 0 to -1{tail}")

    def test_numbers_of_30_and_31_digits(self):
        most, more = "9" * 30, "1" + "0" * 30
        self.assert_parts(Entry(f"day -{most} to {most}"), "day", 1 - 10 ** 30, 10 ** 30 - 1, None)
        self.assert_parts(Entry(f"zoned 0 to {most} a"), "zoned", 0, 10 ** 30 - 1, "a")
        self.assert_bad(f"day 0 to {more}")
        self.assert_bad(f"day -{more} to 0")
        self.assert_bad(f"fixed {more} to {more}")
        self.assert_bad("float 0 to " + "9" * 5000)

    def test_numbers_have_one_text_only(self):
        for number in ["-0", "00", "01", "-01", "+1", "--1", "-", "", "1-", "1_0", "1.0", "1e3",
                       "0x1", " 1", "\u0661", "\u00b2", "\uff11", "\u22121", "one"]:
            with self.subTest(number):
                self.assert_bad(f"day {number} to 5000")
                self.assert_bad(f"day -5000 to {number}")
        self.assert_parts(Entry("day 0 to 0"), "day", 0, 0, None)
        self.assert_parts(Entry("day -10 to 10"), "day", -10, 10, None)

    def test_names_of_12_and_13_letters(self):
        self.assertEqual(Entry("zoned 0 to 1 abcdefghijkl").zone, "abcdefghijkl")
        self.assertEqual(Entry("zoned 0 to 1 z").zone, "z")
        self.assertEqual(Entry("zoned 0 to 1 to").zone, "to")
        for zone in ["abcdefghijklm", "", "A", "aB", "a1", "a_b", "a-b", "\u00e4", "a\n", "a b", "5"]:
            with self.subTest(zone):
                self.assert_bad(f"zoned 0 to 1 {zone}")

    def test_zone_only_for_the_kind_zoned(self):
        self.assert_bad("zoned 0 to 1")
        for kind in ["day", "float", "fixed"]:
            self.assert_bad(f"{kind} 0 to 1 west")

    def test_examples_that_are_no_texts_of_entries(self):
        for text in ["day 2 to 1", "day 02 to 3", "float 0  to 1", "", " ", "\n", "day", "day 1",
                     "day 1 to", "day 1 to ", "day 1 to 2 ", " day 1 to 2", "day 1 to 2\n",
                     "\nday 1 to 2", "day 1 to 2\nday 1 to 2", "day\t1 to 2", "day 1 TO 2",
                     "day 1 2", "day 1 to 2 3", "Day 1 to 2", "days 1 to 2", "week 1 to 2",
                     "1 to 2", "day 1-2", "zoned 1 to 2 a b", "zoned a 1 to 2", "west 1 to 2 zoned"]:
            with self.subTest(text):
                self.assert_bad(text)

    def test_any_value_that_is_no_text(self):
        for value in [*odd_values(), *integers(), Entry("day 1 to 2"), ["day 1 to 2"], ("day", 1, 2)]:
            self.assert_bad(value)

    def test_texts_bent_by_one_sign(self):
        for good in GOOD:
            for text in bent(good, "0123456789- abtoz\n\tA+_"):
                if stands(text):
                    self.assertEqual(Entry(text).text, text)
                else:
                    self.assert_bad(text)


class LaterTest(unittest.TestCase):

    def test_later_and_earlier(self):
        self.assertEqual(Entry("zoned 100 to 700 home") - 1, Entry("zoned -1340 to -740 home"))
        self.assertEqual(Entry("day 10 to 12") + 5, Entry("day 15 to 17"))
        self.assertEqual(Entry("day 10 to 12") - 12, Entry("day -2 to 0"))
        self.assertEqual(Entry("float -1 to 0") + 1, Entry("float 1439 to 1440"))
        self.assertEqual(Entry("fixed 0 to 1") + -2, Entry("fixed -2880 to -2879"))
        self.assertEqual(Entry("fixed 0 to 1") - -2, Entry("fixed 2880 to 2881"))
        self.assertEqual(Entry("zoned 0 to 1 a") + 3, Entry("zoned 4320 to 4321 a"))

    def test_days_consist_of_1440_minutes(self):
        for minute in [0, 1, 1439, 1440, -1, -1440, -1441]:
            for many in [-2, -1, 1, 7]:
                later = Entry(f"float {minute} to {minute}") + many
                self.assertEqual(later.first // 1440, minute // 1440 + many)
                self.assertEqual(later.first % 1440, minute % 1440)

    def test_no_day_later(self):
        for text in GOOD:
            self.assertEqual(Entry(text) + 0, Entry(text))
            self.assertEqual(Entry(text) - 0, Entry(text))

    def test_attributes_of_what_is_returned(self):
        entry = Entry("zoned 100 to 700 home") + 1
        self.assertIs(type(entry), Entry)
        self.assertEqual(entry.text, "zoned 1540 to 2140 home")
        self.assertEqual((entry.kind, entry.first, entry.last, entry.zone), ("zoned", 1540, 2140, "home"))

    def test_entry_stays_as_it_is(self):
        entry = Entry("float 1 to 2")
        entry + 3
        entry - 3
        entry += 1
        self.assertEqual(entry.text, "float 1441 to 1442")
        self.assertEqual(Entry("float 1 to 2").first, 1)

    def test_returned_entries_may_have_more_digits(self):
        many = 10 ** 30 - 1
        entry = Entry("fixed 0 to 1") + many
        self.assertEqual((entry.first, entry.last), (1440 * many, 1440 * many + 1))
        self.assertEqual(entry.text, f"fixed {1440 * many} to {1440 * many + 1}")
        self.assertEqual(entry - many, Entry("fixed 0 to 1"))
        nines = Entry("day " + "9" * 30 + " to " + "9" * 30)
        self.assertEqual((nines + 1).text, "day 1" + "0" * 30 + " to 1" + "0" * 30)
        self.assertEqual((nines + 1 + many - many - 1).text, nines.text)
        self.assertEqual((Entry("day 0 to 0") - many - many).first, -2 * many)
        with self.assertRaises(BadText):
            Entry((nines + 1).text)


class EqualTest(unittest.TestCase):

    def test_equal_if_the_texts_are(self):
        for text in GOOD:
            for other in GOOD:
                self.assertIs(Entry(text) == Entry(other), text == other)
                self.assertIs(Entry(text) != Entry(other), text != other)
        self.assertNotEqual(Entry("zoned 1 to 2 a"), Entry("zoned 1 to 2 b"))
        self.assertNotEqual(Entry("float 1 to 2"), Entry("fixed 1 to 2"))
        self.assertNotEqual(Entry("day 1 to 2"), Entry("day 1 to 3"))

    def test_not_equal_to_values_of_other_kinds(self):
        entry = Entry("day 1 to 2")
        for value in [*odd_values(), *integers(), "day 1 to 2", Same(), Sulky()]:
            self.assertIs(entry == value, False)
            self.assertIs(entry != value, True)


if __name__ == "__main__":
    unittest.main()

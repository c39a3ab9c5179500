import unittest

from plain import RefusalCase
from tiewood.texts import (
    is_number, is_unsigned, number_of, numbers_text, ties_text, trail_text, unsigned_of, way_text, weighed_of,
)

SIXTY = "1" + "0" * 59
UNSIGNED = ("0", "1", "9", "10", "200", "1000000", "123456789", SIXTY, "9" * 60)
SIGNED = ("-1", "-9", "-10", "-200", "-" + SIXTY, "-" + "9" * 60)
NO_NUMBERS = (
    "", "-", "--1", "+", "+1", "+0", "-0", "00", "01", "007", "-01", "-00", "1-", "1-2", "- 1", " 1", "1 ", "1.0",
    "1e3", "1_000", "1,0", "0x1", "a", "1a", "a1", "one", "*", "~", SIXTY + "0", "-" + SIXTY + "0", "0" * 60, "1" * 61,
    "9" * 100, "\u0663", "\u00b2", "1\n", "\t1", "None", "True",
)


class Numbers(RefusalCase):
    def test_written_numbers(self):
        for word in UNSIGNED + SIGNED:
            with self.subTest(word=word):
                self.assertIs(is_number(word), True)
                self.assertEqual(number_of(word), int(word))
                self.assertEqual(str(number_of(word)), word)

    def test_numbers_without_a_sign(self):
        for word in UNSIGNED:
            self.assertIs(is_unsigned(word), True)
            self.assertEqual(unsigned_of(word), int(word))
        for word in SIGNED:
            self.assertIs(is_unsigned(word), False)
            self.refused("NoRow", unsigned_of, word)

    def test_words_that_are_no_numbers(self):
        for word in NO_NUMBERS:
            with self.subTest(word=word):
                self.assertIs(is_number(word), False)
                self.assertIs(is_unsigned(word), False)
                self.refused("NoRow", number_of, word)
                self.refused("NoRow", unsigned_of, word)


class Weighed(RefusalCase):
    def test_the_three_parts(self):
        for word, told in (
            ("0-1:5", (0, 1, 5)), ("10-2:0", (10, 2, 0)), ("3-4:-7", (3, 4, -7)), ("7-7:1", (7, 7, 1)),
            ("0-" + SIXTY + ":-" + SIXTY, (0, 10 ** 59, -10 ** 59)),
        ):
            self.assertEqual(weighed_of(word), told)

    def test_what_is_none(self):
        for word in (
            "", "-", ":", "-:", "1-2", "1:2", "1-2:", "-2:3", "1-:3", "1--2:3", "-1-2:3", "-1--2:3", "1-2:3:4", "1:2-3",
            "1-2-3:4", "1-2:3-4", "1-2:+3", "+1-2:3", "1-+2:3", "01-2:3", "1-02:3", "1-2:03", "1-2:-0", "1-2:--3",
            "1-2::3", "12:-3", "1 -2:3", "1-2:3*", "1-2:" + "1" * 61, "1" * 61 + "-2:3", "1-" + "1" * 61 + ":3",
        ):
            with self.subTest(word=word):
                self.refused("NoRow", weighed_of, word)


class Answers(unittest.TestCase):
    def test_numbers_and_ways(self):
        self.assertEqual(numbers_text([0]), "0")
        self.assertEqual(numbers_text((11, 0, -2)), "11 0 -2")
        self.assertEqual(way_text([3, 10, 2]), "3 10 2")
        self.assertEqual(way_text([0]), "0")
        self.assertEqual(way_text(None), "none")

    def test_ties(self):
        self.assertEqual(ties_text([]), "none")
        self.assertEqual(ties_text([(0, 12, 0, False), (3, 4, 11, True)]), "0-12:0 3-4:11*")

    def test_trails(self):
        self.assertEqual(trail_text([]), "none")
        self.assertEqual(trail_text([(0, [4], [], None)]), "0:1/0")
        trail = [(1, [3, 4], [(3, 4)], None), (0, [1, 2, 3, 4], [(1, 2), (1, 3), (2, 3)], (2, 5))]
        self.assertEqual(trail_text(trail), "1:2/1 0:4/3>2-5")
        # The first tie of all is found, too.
        self.assertEqual(trail_text([(0, [0], [], (0, 1))]), "0:1/0>0-1")


if __name__ == "__main__":
    unittest.main()

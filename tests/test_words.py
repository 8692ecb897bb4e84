"""Whole numbers (2) and names (4)."""

import unittest

from rollcall.words import is_name, is_whole
from samples import NO_TEXTS

SMALL = "abcdefghijklmnopqrstuvwxyz"
OTHER_SIGNS = [chr(code) for code in range(ord(" "), ord("~") + 1) if chr(code) not in SMALL]


class Wholes(unittest.TestCase):

    def test_whole_numbers(self):
        for number in [0, 1, -1, 2, -2, 12, 40, 41, 255, 256, 10 ** 18, -10 ** 18, 10 ** 59, -10 ** 59,
                       int("9" * 60), -int("9" * 60), 10 ** 5000, -10 ** 5000]:
            with self.subTest(bits=number.bit_length()):
                self.assertIs(is_whole(number), True)

    def test_truths_are_no_whole_numbers(self):
        self.assertIs(is_whole(True), False)
        self.assertIs(is_whole(False), False)

    def test_other_things_are_no_whole_numbers(self):
        for thing in [None, "", "0", "1", "-1", "ann", " ", [], (), [0], (0,), [1, 2], (1, 2), [[1]], ((1,),),
                      [True], (None,), ["1"], ("ann", 1), [[[[[1]]]]]]:
            with self.subTest(thing=thing):
                self.assertIs(is_whole(thing), False)

    def test_what_is_handed_in_stays(self):
        thing = [1, [2, "ann"]]
        is_whole(thing)
        is_name(thing)
        self.assertEqual(thing, [1, [2, "ann"]])


class Names(unittest.TestCase):

    def test_lengths(self):
        for letter in ["a", "m", "z"]:
            for length in range(0, 30):
                with self.subTest(letter=letter, length=length):
                    self.assertIs(is_name(letter * length), 1 <= length <= 12)

    def test_lengths_of_unlike_letters(self):
        self.assertIs(is_name(""), False)
        self.assertIs(is_name("abcdefghijkl"), True)
        self.assertIs(is_name("opqrstuvwxyz"), True)
        self.assertIs(is_name("abcdefghijklm"), False)
        self.assertIs(is_name(SMALL), False)
        self.assertIs(is_name("a" * 1000), False)

    def test_every_small_letter_at_every_place(self):
        for letter in SMALL:
            for text in [letter, letter + "nn", "a" + letter + "n", "an" + letter, "abcdefghijk" + letter]:
                with self.subTest(text=text):
                    self.assertIs(is_name(text), True)

    def test_no_other_sign_at_any_place(self):
        for sign in OTHER_SIGNS:
            for text in [sign, sign + "nn", "a" + sign + "n", "an" + sign, "abcdefghijk" + sign,
                         sign + "bcdefghijkl", "abcdef" + sign + "hijkl"]:
                with self.subTest(text=text):
                    self.assertIs(is_name(text), False)

    def test_capitals_figures_blanks(self):
        for text in ["Ann", "aNn", "anN", "ANN", "1nn", "a1n", "an1", "123", " nn", "a n", "an ", " ", "  ",
                     "-ann", "an-n", "ann-", "an_n", "ann."]:
            with self.subTest(text=text):
                self.assertIs(is_name(text), False)

    def test_what_is_no_text_is_no_name(self):
        for thing in NO_TEXTS:
            with self.subTest(thing=thing):
                self.assertIs(is_name(thing), False)


if __name__ == "__main__":
    unittest.main()

"""The error classes of the interface, and the names of a Hindered error (28)."""

import unittest

from rollcall import errors
from rollcall.errors import (
    Hindered, NoGuest, NoName, NoNet, NoResult, NoRow, NoTable, NotTold, RollError, Told, TooFew)

REFUSALS = [NoName, NoGuest, NoNet, NoTable, NoResult, NotTold, Told, TooFew, Hindered, NoRow]


class Classes(unittest.TestCase):

    def test_roll_error_stands_straight_under_value_error(self):
        self.assertEqual(RollError.__bases__, (ValueError,))

    def test_each_refusal_stands_straight_under_roll_error(self):
        for refusal in REFUSALS:
            with self.subTest(refusal=refusal.__name__):
                self.assertEqual(refusal.__bases__, (RollError,))

    def test_each_class_is_there_under_its_own_name(self):
        names = ["RollError", "NoName", "NoGuest", "NoNet", "NoTable", "NoResult", "NotTold", "Told", "TooFew",
                 "Hindered", "NoRow"]
        for name in names:
            with self.subTest(name=name):
                self.assertEqual(getattr(errors, name).__name__, name)
        self.assertEqual(len({getattr(errors, name) for name in names}), 11)

    def test_none_takes_another_one(self):
        for one in REFUSALS:
            for other in REFUSALS:
                with self.subTest(raised=one.__name__, taken=other.__name__):
                    self.assertEqual(takes(other, made(one)), one == other)

    def test_each_is_taken_as_roll_error_and_as_value_error(self):
        for refusal in REFUSALS:
            with self.subTest(refusal=refusal.__name__):
                self.assertTrue(takes(RollError, made(refusal)))
                self.assertTrue(takes(ValueError, made(refusal)))

    def test_roll_error_itself_is_none_of_the_ten(self):
        for refusal in REFUSALS:
            with self.subTest(refusal=refusal.__name__):
                self.assertFalse(takes(refusal, RollError("refused")))


class Names(unittest.TestCase):

    def test_names_are_a_list_set_when_it_is_made(self):
        error = Hindered(["bob", "ann", ""])
        self.assertIs(type(error.names), list)
        self.assertEqual(error.names, ["bob", "ann", ""])

    def test_names_come_along_when_it_is_raised(self):
        with self.assertRaises(Hindered) as taken:
            raise Hindered(["ann"])
        self.assertEqual(taken.exception.names, ["ann"])

    def test_names_may_be_none(self):
        self.assertEqual(Hindered([]).names, [])
        self.assertEqual(Hindered().names, [])
        self.assertIs(type(Hindered().names), list)

    def test_a_change_of_the_list_handed_in_changes_no_names(self):
        handed = ["ann", "bob"]
        error = Hindered(handed)
        handed.append("cid")
        self.assertEqual(error.names, ["ann", "bob"])

    def test_a_change_of_the_names_changes_no_other_list(self):
        handed = ["ann"]
        one = Hindered(handed)
        other = Hindered(handed)
        one.names.append("bob")
        self.assertEqual(handed, ["ann"])
        self.assertEqual(other.names, ["ann"])
        Hindered().names.append("bob")
        self.assertEqual(Hindered().names, [])


def made(refusal):
    if refusal is Hindered:
        return Hindered(["ann"])
    return refusal("refused")


def takes(refusal, error):
    try:
        raise error
    except refusal:
        return True
    except ValueError:
        return False


if __name__ == "__main__":
    unittest.main()

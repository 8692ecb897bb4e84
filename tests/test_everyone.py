"""Everybody meets everybody (32); what is told is the asker's own (2)."""

import collections
import copy
import random
import unittest

from rollcall.everyone import everyone

NAMES = [one + other for one in "abcdefg" for other in "abcdefg"]


class Everyone(unittest.TestCase):

    def checked(self, names):
        kept = list(names)
        plan = everyone(names)
        self.assertEqual(names, kept)
        self.assertIs(type(plan), list)
        n = len(names)
        self.assertEqual(len(plan), n if n % 2 == 1 else n - 1)
        for turn in plan:
            self.one_turn(names, turn)
        self.each_two_once(names, plan)
        self.sides(names, plan)
        return plan

    def one_turn(self, names, turn):
        self.assertIs(type(turn), list)
        self.assertEqual(len(turn), len(names) // 2)
        for table in turn:
            self.assertIs(type(table), tuple)
            self.assertEqual([type(name) for name in table], [str, str])
        here = [name for table in turn for name in table]
        self.assertEqual(len(set(here)), len(here))
        self.assertLessEqual(set(here), set(names))

    def each_two_once(self, names, plan):
        met = [frozenset(table) for turn in plan for table in turn]
        wanted = {frozenset([one, other]) for one in names for other in names if one != other}
        self.assertEqual(len(met), len(wanted))
        self.assertEqual(set(met), wanted)
        if len(names) % 2 == 1:
            rests = [set(names) - {name for table in turn for name in table} for turn in plan]
            self.assertTrue(all(len(some) == 1 for some in rests))
            self.assertEqual(sorted(name for some in rests for name in some), sorted(names))

    def sides(self, names, plan):
        windows = collections.Counter(window for turn in plan for window, door in turn)
        doors = collections.Counter(door for turn in plan for window, door in turn)
        for name in names:
            self.assertEqual(windows[name] + doors[name], len(names) - 1)
            self.assertLessEqual(abs(windows[name] - doors[name]), 1, name)

    def test_two_names(self):
        plan = self.checked(["ann", "bob"])
        self.assertIn(plan, [[[("ann", "bob")]], [[("bob", "ann")]]])

    def test_three_names(self):
        plan = self.checked(["ann", "bob", "cid"])
        self.assertEqual([len(turn) for turn in plan], [1, 1, 1])

    def test_an_even_number_of_names(self):
        for n in range(2, 41, 2):
            with self.subTest(n=n):
                self.checked(NAMES[:n])

    def test_an_odd_number_of_names(self):
        for n in range(3, 40, 2):
            with self.subTest(n=n):
                self.checked(NAMES[:n])

    def test_somewhat_more_names(self):
        for n in range(41, 46):
            with self.subTest(n=n):
                self.checked(NAMES[:n])

    def test_names_in_any_order(self):
        chance = random.Random(321)
        for n in [2, 3, 7, 8, 21, 22, 39, 40]:
            self.checked(chance.sample(NAMES, n))
        self.checked(["z", "a", "zz", "aa", "zzzzzzzzzzzz", "none", "w", "d"])

    def test_what_was_told_is_the_askers_own(self):
        for n in [2, 3, 6, 7]:
            names = NAMES[:n]
            plan = everyone(names)
            kept = copy.deepcopy(plan)
            self.assertEqual(everyone(names), kept)
            for turn in plan:
                turn.append(("more", "more"))
            plan.clear()
            names.reverse()
            self.assertEqual(everyone(NAMES[:n]), kept)
            told = everyone(names)
            names.clear()
            self.assertEqual(len(told), len(kept))


if __name__ == "__main__":
    unittest.main()

"""Cards by the turns (17, 18) and the standing (19); what is told is the asker's own (2)."""

import copy
import random
import unittest

from rollcall.cards import card, standing
from samples import all_cards, empty, some_turn

# Names that are parts of one another, and such as are one or twelve letters long.
NAMES = ["ann", "bob", "cid", "dan", "eve", "a", "an", "anna", "nna", "b", "zzzzzzzzzzzz", "zzzzzzzzzzz"]
TURNS = [
    [("ann", "bob", 2), ("cid", "dan", 1), ("eve", "", 2)],
    [("bob", "cid", 0), ("eve", "ann", 0), ("dan", "", 2)],
    [],
    [("dan", "eve", None), ("cid", "ann", 1)]]


class Card(unittest.TestCase):

    def said(self, wanted, turns, name):
        kept = copy.deepcopy(turns)
        told = card(turns, name)
        self.assertEqual(told, wanted, (turns, name))
        self.assertEqual([type(one) for one in told], [str, int, str, tuple, bool, tuple])
        self.assertIs(type(told), tuple)
        self.assertTrue(all(type(number) is int for number in told[5]), told)
        self.assertEqual(turns, kept)

    def test_a_name_that_is_in_no_turn(self):
        for name in NAMES:
            for turns in [[], [[]], [[], [], []], [[("fay", "gus", 1)]], [[], [("fay", "gus", None), ("hal", "", 2)]]]:
                self.said(empty(name), turns, name)
        self.said(empty("an"), TURNS, "an")
        self.said(empty("e"), TURNS, "e")

    def test_both_sides_of_a_table(self):
        for won, window, door in [(2, 2, 0), (1, 1, 1), (0, 0, 2), (None, 0, 0)]:
            turns = [[("ann", "bob", won)]]
            self.said(("ann", window, "w", ("bob",), False, (0,)), turns, "ann")
            self.said(("bob", door, "d", ("ann",), False, (0,)), turns, "bob")

    def test_a_rest(self):
        wanted = ("ann", 2, "", (), True, ())
        self.said(wanted, [[("ann", "", 2)]], "ann")
        self.said(wanted, [[("bob", "cid", 0), ("ann", "", 2)]], "ann")
        self.said(wanted, [[("bob", "cid", None), ("dan", "eve", 2), ("ann", "", 2)], []], "ann")
        self.said(("bob", 0, "w", ("cid",), False, (0,)), [[("bob", "cid", 0), ("ann", "", 2)]], "bob")
        self.said(("cid", 2, "d", ("bob",), False, (0,)), [[("bob", "cid", 0), ("ann", "", 2)]], "cid")

    def test_rests_and_meetings(self):
        turns = [[("ann", "bob", 1)], [("bob", "", 2)], [("cid", "bob", 0), ("ann", "", 2)], [("ann", "", 2)]]
        self.said(("ann", 5, "w", ("bob",), True, (0,)), turns, "ann")
        self.said(("bob", 5, "dd", ("ann", "cid"), True, (0, 0)), turns, "bob")
        self.said(("cid", 0, "w", ("bob",), False, (0,)), turns, "cid")

    def test_a_name_met_twice_stands_twice(self):
        turns = [[("ann", "bob", 2)], [("bob", "ann", 2)], [("cid", "ann", 1)], [("bob", "ann", None)]]
        self.said(("ann", 3, "wddd", ("bob", "bob", "cid", "bob"), False, (0, 0, 0, 0)), turns, "ann")
        self.said(("bob", 2, "dww", ("ann", "ann", "ann"), False, (0, 0, 0)), turns, "bob")

    def test_tables_are_numbered_by_their_places(self):
        turn = [("ann", "bob", 2), ("cid", "dan", None), ("eve", "fay", 0), ("gus", "", 2)]
        for number, (window, door, won) in enumerate(turn[:3]):
            self.assertEqual(card([turn], window)[5], (number,))
            self.assertEqual(card([turn], door)[5], (number,))
            self.assertEqual(card([turn, [], turn], door)[5], (number, number))
            self.assertEqual(card([turn, turn[number:]], door)[5], (number, 0))
        self.assertEqual(card([turn], "gus")[5], ())

    def test_several_turns_in_their_order(self):
        self.said(("ann", 5, "wdd", ("bob", "eve", "cid"), False, (0, 1, 1)), TURNS, "ann")
        self.said(("bob", 0, "dw", ("ann", "cid"), False, (0, 0)), TURNS, "bob")
        self.said(("cid", 4, "wdw", ("dan", "bob", "ann"), False, (1, 0, 1)), TURNS, "cid")
        self.said(("dan", 3, "dw", ("cid", "eve"), True, (1, 0)), TURNS, "dan")
        self.said(("eve", 2, "wd", ("ann", "dan"), True, (1, 0)), TURNS, "eve")
        self.said(("ann", 5, "ddw", ("cid", "eve", "bob"), False, (1, 1, 0)), TURNS[::-1], "ann")

    def test_a_result_that_is_told_later(self):
        for won, points in [(None, (3, 2)), (0, (3, 4)), (1, (4, 3)), (2, (5, 2))]:
            turns = TURNS[:3] + [[("dan", "eve", won), ("cid", "ann", 1)]]
            self.said(("dan", points[0], "dw", ("cid", "eve"), True, (1, 0)), turns, "dan")
            self.said(("eve", points[1], "wd", ("ann", "dan"), True, (1, 0)), turns, "eve")

    def test_some_turns(self):
        chance = random.Random(181)
        for number in range(60):
            turns = [some_turn(NAMES, chance) for turn in range(chance.randrange(0, 9))]
            for name, wanted in all_cards(turns, NAMES).items():
                self.said(wanted, turns, name)

    def test_many_guests_and_turns(self):
        chance = random.Random(182)
        names = [one + other for one in "abcde" for other in "abcdefghi"]
        turns = [some_turn(names, chance) for turn in range(50)]
        for name, wanted in all_cards(turns, names).items():
            self.said(wanted, turns, name)


class Standing(unittest.TestCase):

    def said(self, wanted, turns, names):
        kept = copy.deepcopy((turns, names))
        told = standing(turns, names)
        self.assertEqual(told, wanted, (turns, names))
        self.assertIs(type(told), list)
        for row in told:
            self.assertIs(type(row), tuple)
            self.assertEqual([type(one) for one in row], [str, int, int])
        self.assertEqual((turns, names), kept)

    def in_order(self, turns, names):
        """Held against the cards, and each place against all ahead of it."""
        cards = all_cards(turns, sorted(set(names) | {name for turn in turns for row in turn for name in row[:2]}))
        told = standing(turns, names)
        self.assertEqual(sorted(row[0] for row in told), sorted(names))
        for number, (name, points, faced) in enumerate(told):
            self.assertEqual(points, cards[name][1])
            self.assertEqual(faced, sum(cards[other][1] for other in cards[name][3]))
            for ahead, more, most in told[:number]:
                self.assertGreaterEqual((more, most), (points, faced))
                if (more, most) == (points, faced):
                    self.assertLess(names.index(ahead), names.index(name))
        self.said(told, turns, names)

    def test_no_names(self):
        for turns in [[], [[]], TURNS]:
            self.said([], turns, [])

    def test_names_that_are_in_no_turn(self):
        for names in [["ann"], ["bob", "ann", "cid"], NAMES, NAMES[::-1]]:
            for turns in [[], [[]], [[("fay", "gus", 2)], [("gus", "", 2)]]]:
                self.said([(name, 0, 0) for name in names], turns, names)

    def test_more_points_ahead_of_fewer(self):
        turn = [("ann", "bob", 0), ("cid", "dan", 1)]
        for names in [["ann", "bob", "cid"], ["cid", "bob", "ann"], ["bob", "cid", "ann"]]:
            self.said([("bob", 2, 0), ("cid", 1, 1), ("ann", 0, 2)], [turn], names)
        # Fewer points stay behind, however many were faced.
        turns = [[("ann", "bob", 1), ("cid", "", 2)], [("ann", "bob", 1)], [("bob", "", 2)]]
        self.said([("bob", 4, 4), ("ann", 2, 8), ("cid", 2, 0)], turns, ["cid", "ann", "bob"])
        turns.append([("cid", "dan", 1)])
        self.said([("bob", 4, 4), ("cid", 3, 1), ("ann", 2, 8), ("dan", 1, 3)], turns, ["dan", "ann", "cid", "bob"])

    def test_alike_points_by_more_faced(self):
        turns = [[("ann", "bob", 1), ("cid", "dan", 1)], [("dan", "eve", 2), ("bob", "", 2)], [("dan", "fay", 2)]]
        for names in [["ann", "cid"], ["cid", "ann"]]:
            self.said([("cid", 1, 5), ("ann", 1, 3)], turns, names)

    def test_alike_again_as_they_stand_in_the_list(self):
        turn = [("ann", "bob", 1), ("cid", "dan", 1), ("eve", "fay", None)]
        for names in [["ann", "bob", "cid", "dan"], ["dan", "ann", "cid", "bob"], ["bob", "dan", "ann", "cid"]]:
            self.said([(name, 1, 1) for name in names], [turn], names)
            self.said([(name, 1, 1) for name in names] + [("fay", 0, 0), ("eve", 0, 0)], [turn], ["fay"] + names + ["eve"])

    def test_somebody_met_twice_counts_twice(self):
        turns = [[("ann", "bob", 0)], [("bob", "ann", 1)], [("ann", "cid", 2)]]
        self.said([("ann", 3, 6), ("bob", 3, 6), ("cid", 0, 3)], turns, ["ann", "bob", "cid"])

    def test_the_points_of_those_faced_are_those_of_all_turns(self):
        turns = [[("ann", "bob", 2), ("cid", "dan", 2)], [("bob", "cid", 2), ("dan", "", 2)], [("bob", "", 2)]]
        wanted = [("bob", 4, 4), ("cid", 2, 6), ("ann", 2, 4), ("dan", 2, 2)]
        self.said(wanted, turns, ["ann", "bob", "cid", "dan"])
        self.said(wanted, turns[::-1], ["ann", "bob", "cid", "dan"])

    def test_those_faced_need_not_be_in_the_list(self):
        turns = [[("ann", "bob", 0), ("cid", "", 2)], [("bob", "cid", 1)]]
        self.said([("ann", 0, 3)], turns, ["ann"])
        self.said([("cid", 3, 3), ("ann", 0, 3)], turns, ["ann", "cid"])
        self.said([("bob", 3, 3)], turns, ["bob"])

    def test_a_result_that_is_not_told_yet(self):
        turns = [[("bob", "", 2)], [("ann", "bob", None), ("cid", "", 2)]]
        self.said([("bob", 2, 0), ("cid", 2, 0), ("ann", 0, 2)], turns, ["ann", "bob", "cid"])

    def test_by_a_rest_nobody_is_faced(self):
        turns = [[("ann", "", 2)], [("bob", "", 2)], [("ann", "cid", 0)]]
        self.said([("ann", 2, 2), ("cid", 2, 2), ("bob", 2, 0)], turns, ["bob", "ann", "cid"])

    def test_several_turns(self):
        self.said([("ann", 5, 6), ("cid", 4, 8), ("dan", 3, 6), ("eve", 2, 8), ("bob", 0, 9)],
                  TURNS, ["ann", "bob", "cid", "dan", "eve"])

    def test_some_turns(self):
        chance = random.Random(191)
        for number in range(80):
            turns = [some_turn(NAMES, chance) for turn in range(chance.randrange(0, 8))]
            self.in_order(turns, chance.sample(NAMES, chance.randrange(0, len(NAMES) + 1)))

    def test_many_guests_and_turns(self):
        chance = random.Random(192)
        names = [one + other for one in "abcde" for other in "abcdefghi"]
        chance.shuffle(names)
        self.in_order([some_turn(names, chance) for turn in range(45)], names)
        self.in_order([some_turn(names[:40], chance) for turn in range(39)], names[:40])


class OnesOwn(unittest.TestCase):

    def test_a_change_of_what_was_told_changes_nothing_later(self):
        names = ["ann", "bob", "cid", "dan", "eve"]
        told = standing(TURNS, names)
        kept = list(told)
        told.reverse()
        told.append(("fay", 9, 9))
        self.assertEqual(standing(TURNS, names), kept)
        empties = standing([], [])
        empties.append(1)
        self.assertEqual(standing([], []), [])

    def test_a_change_of_what_was_handed_in_changes_nothing_later(self):
        turns = copy.deepcopy(TURNS)
        names = ["ann", "bob", "cid", "dan", "eve"]
        cards = [card(turns, name) for name in names]
        told = standing(turns, names)
        kept = copy.deepcopy((cards, told))
        names.append("fay")
        turns[2].append(("ann", "bob", 0))
        turns[0].clear()
        turns.append([("fay", "", 2)])
        self.assertEqual((cards, told), kept)
        self.assertEqual(card(turns, "ann"), ("ann", 3, "dwd", ("eve", "bob", "cid"), False, (1, 0, 1)))
        self.assertEqual(standing(turns, ["fay", "bob"]), [("bob", 2, 6), ("fay", 2, 0)])
        self.assertEqual([card(TURNS, name) for name in names[:5]], kept[0])
        self.assertEqual(standing(TURNS, names[:5]), kept[1])


if __name__ == "__main__":
    unittest.main()

"""Sides, bonds and wishes (20), who may meet (21), who sits at the window (22), and what follows (23)."""

import copy
import itertools
import random
import unittest

from rollcall.cards import card
from rollcall.wishes import at_window, bound, lean, may_meet, wish
from samples import bound_by, card_of, keeps, leans_of, seated_by, texts, wish_by

BIG = 10 ** 60 - 1


class Sides(unittest.TestCase):

    def said(self, sides, leans, is_bound, wishes):
        self.assertEqual((lean(sides), bound(sides), wish(sides)), (leans, is_bound, wishes), sides)
        self.assertEqual([type(one) for one in (lean(sides), bound(sides), wish(sides))], [int, str, str])

    def test_no_sides(self):
        self.said("", 0, "", "")

    def test_leans_of_two_and_beyond(self):
        self.said("ww", 2, "d", "d")
        self.said("wdww", 2, "d", "d")
        self.said("wwdw", 2, "d", "d")
        self.said("www", 3, "d", "d")
        self.said("w" * 100, 100, "d", "d")
        self.said("dd", -2, "w", "w")
        self.said("dwdd", -2, "w", "w")
        self.said("ddwd", -2, "w", "w")
        self.said("ddd", -3, "w", "w")
        self.said("d" * 100, -100, "w", "w")

    def test_leans_of_one(self):
        self.said("w", 1, "", "d")
        self.said("wdw", 1, "", "d")
        self.said("wwd", 1, "", "d")
        self.said("d", -1, "", "w")
        self.said("dwd", -1, "", "w")
        self.said("ddw", -1, "", "w")

    def test_a_lean_of_nought(self):
        self.said("wd", 0, "", "w")
        self.said("dw", 0, "", "d")
        self.said("wddw", 0, "", "d")
        self.said("dwwd", 0, "", "w")
        self.said("wdwd", 0, "", "w")
        self.said("wd" * 50, 0, "", "w")
        self.said("dw" * 50, 0, "", "d")

    def test_texts_that_end_with_two_alike(self):
        self.said("dww", 1, "d", "d")
        self.said("ddww", 0, "d", "d")
        self.said("dddww", -1, "d", "d")
        self.said("wdd", -1, "w", "w")
        self.said("wwdd", 0, "w", "w")
        self.said("wwwdd", 1, "w", "w")

    def test_the_lean_goes_ahead_of_the_end(self):
        self.said("wwwwdd", 2, "d", "d")
        self.said("wwwwwdd", 3, "d", "d")
        self.said("wwwdwdd", 1, "w", "w")
        self.said("ddddww", -2, "w", "w")
        self.said("dddddww", -3, "w", "w")
        self.said("dddwdww", -1, "d", "d")
        self.said("w" * 40 + "d" * 38, 2, "d", "d")
        self.said("d" * 40 + "w" * 38, -2, "w", "w")

    def test_every_text_of_up_to_ten_sides(self):
        for sides in texts(10):
            self.said(sides, leans_of(sides)[-1], bound_by(sides), wish_by(sides))

    def test_the_other_sides_give_the_other_wish(self):
        other = {"w": "d", "d": "w", "": ""}
        for sides in texts(7):
            swapped = "".join(other[sign] for sign in sides)
            self.said(swapped, -lean(sides), other[bound(sides)], other[wish(sides)])

    def test_who_is_bound_wishes_it(self):
        for sides in texts(8):
            self.assertIn(bound(sides), ["", wish(sides)])
            self.assertEqual(wish(sides) == "", sides == "")


class MayMeet(unittest.TestCase):

    def said(self, wanted, one, other):
        kept = copy.deepcopy((one, other))
        self.assertIs(may_meet(one, other), wanted, (one, other))
        self.assertIs(may_meet(other, one), wanted, (other, one))
        self.assertEqual((one, other), kept)

    def test_none_bound(self):
        self.said(True, card_of("ann", ""), card_of("bob", ""))
        self.said(True, card_of("ann", "w"), card_of("bob", "w"))
        self.said(True, card_of("ann", "d"), card_of("bob", "d"))
        self.said(True, card_of("ann", "wd", ("cid", "dan")), card_of("bob", "dw", ("dan", "cid")))

    def test_who_has_met_the_other(self):
        self.said(False, card_of("ann", "w", ("bob",)), card_of("bob", "d", ("ann",)))
        self.said(False, card_of("ann", "wdw", ("cid", "bob", "dan")), card_of("bob", "dwd", ("eve", "fay", "ann")))

    def test_who_has_met_by_one_card_alone(self):
        for met in [("bob",), ("bob", "cid"), ("cid", "bob"), ("cid", "bob", "dan"), ("bob", "bob")]:
            self.said(False, card_of("ann", "", met), card_of("bob", ""))
            self.said(False, card_of("ann", "wd", met), card_of("bob", "dw", ("cid", "dan")))

    def test_names_that_are_parts_of_others(self):
        for met in [("bobb",), ("bo", "b"), ("b", "ob"), ("xbob",), ("", "")]:
            self.said(True, card_of("ann", "", met), card_of("bob", ""))
        self.said(True, card_of("ann", "", ("ann",)), card_of("bob", "", ("bob",)))

    def test_bound_to_the_same_side(self):
        self.said(False, card_of("ann", "ww"), card_of("bob", "ww"))
        self.said(False, card_of("ann", "dd"), card_of("bob", "dd"))
        self.said(False, card_of("ann", "dww"), card_of("bob", "wdww"))
        self.said(False, card_of("ann", "ddww"), card_of("bob", "wwwwdd"))
        self.said(False, card_of("ann", "wdd"), card_of("bob", "ddddww"))

    def test_bound_to_unlike_sides(self):
        self.said(True, card_of("ann", "ww"), card_of("bob", "dd"))
        self.said(True, card_of("ann", "dww"), card_of("bob", "wdd"))
        self.said(True, card_of("ann", "wwwwdd"), card_of("bob", "wwdd"))
        self.said(False, card_of("ann", "ww", ("bob",)), card_of("bob", "dd"))

    def test_one_bound(self):
        for sides in ["ww", "dd", "dww", "wdd", "wwwwdd"]:
            for other in ["", "w", "d", "wd", "dw", "wwd", "ddw"]:
                self.said(True, card_of("ann", sides), card_of("bob", other))
                self.said(False, card_of("ann", sides), card_of("bob", other, ("ann",)))

    def test_cards_that_no_turns_give(self):
        # More sides than names met, or fewer; points, rests and tables have no say in it.
        for points, rested, tables in itertools.product([0, -3, BIG], [True, False], [(), (0,), (5, 5, -1)]):
            one = card_of("ann", "w", ("cid",) * 9, points, rested, tables)
            self.said(True, one, card_of("bob", "", (), BIG, True, (0,)))
            self.said(True, one, card_of("bob", "wwwwwww", (), points, rested, tables))
            self.said(False, one, card_of("bob", "", ("dan", "ann"), points, rested, tables))
            ones = card_of("ann", "wwww", ("cid",), points, rested, tables)
            self.said(False, ones, card_of("bob", "ww", (), 1, False, ()))

    def test_all_sides_of_up_to_five_signs(self):
        for one, other in itertools.product(texts(5), repeat=2):
            wanted = bound_by(one) + bound_by(other) not in ["ww", "dd"]
            self.said(wanted, card_of("ann", one), card_of("bob", other))
            self.said(False, card_of("ann", one, ("bob",)), card_of("bob", other))


class AtWindow(unittest.TestCase):

    def said(self, wanted, one, other, turn=0):
        kept = copy.deepcopy((one, other))
        self.assertIs(at_window(one, other, turn), wanted, (one, other, turn))
        self.assertEqual((one, other), kept)

    def of_sides(self, wanted, one, other, turns=(0, 1, 2, 3)):
        for turn in turns:
            self.said(wanted, card_of("ann", one), card_of("bob", other), turn)
            self.said(wanted, card_of("zoe", one), card_of("bob", other), turn)

    def test_unlike_wishes(self):
        self.of_sides(True, "d", "w")
        self.of_sides(False, "w", "d")
        self.of_sides(True, "d", "")
        self.of_sides(False, "w", "")
        self.of_sides(True, "", "w")
        self.of_sides(False, "", "d")

    def test_unlike_wishes_of_such_as_are_bound(self):
        self.of_sides(True, "dd", "ww")
        self.of_sides(False, "ww", "dd")
        self.of_sides(True, "dd", "")
        self.of_sides(False, "ww", "")
        self.of_sides(True, "", "ww")
        self.of_sides(False, "", "dd")
        self.of_sides(True, "d", "ww")
        self.of_sides(False, "w", "dd")
        self.of_sides(True, "dd", "w")
        self.of_sides(False, "ww", "d")

    def test_alike_wishes_with_just_one_bound(self):
        self.of_sides(True, "dd", "d")
        self.of_sides(False, "d", "dd")
        self.of_sides(False, "ww", "w")
        self.of_sides(True, "w", "ww")

    def test_the_bound_one_goes_ahead_of_the_lean(self):
        # Bound by the end alone, with a lean nearer to 0 than the other one's.
        self.of_sides(True, "wwdd", "dwd")
        self.of_sides(False, "dwd", "wwdd")
        self.of_sides(False, "ddww", "wdw")
        self.of_sides(True, "wdw", "ddww")

    def test_alike_wishes_with_unlike_leans(self):
        self.of_sides(True, "d", "wd")
        self.of_sides(False, "wd", "d")
        self.of_sides(False, "w", "dw")
        self.of_sides(True, "dw", "w")

    def test_alike_wishes_with_leans_alike(self):
        self.of_sides(True, "d", "d")
        self.of_sides(True, "d", "dwd")
        self.of_sides(True, "wd", "wdwd")
        self.of_sides(False, "w", "w")
        self.of_sides(False, "w", "wdw")
        self.of_sides(False, "dw", "wddw")

    def test_no_wishes(self):
        for turn in range(0, 50, 2):
            self.of_sides(True, "", "", [turn])
            self.of_sides(False, "", "", [turn + 1])
        self.of_sides(False, "", "", [BIG])
        self.of_sides(True, "", "", [BIG - 1])

    def test_no_names_points_or_rests_have_a_say(self):
        for points, rested, tables in itertools.product([0, -3, BIG], [True, False], [(), (0,), (5, 5, -1)]):
            for met in [(), ("cid",), ("cid", "dan", "cid")]:
                for one, other in [("", ""), ("d", "d"), ("w", "d"), ("dd", "d"), ("wd", "d"), ("ww", "w")]:
                    for turn in [0, 1]:
                        self.said(seated_by(one, other, turn), card_of("ann", one, met, points, rested, tables),
                                  card_of("bob", other), turn)
                        self.said(seated_by(one, other, turn), card_of("ann", one),
                                  card_of("bob", other, met, points, rested, tables), turn)

    def test_all_sides_of_up_to_six_signs(self):
        for one, other in itertools.product(texts(6), repeat=2):
            cards = (card_of("ann", one), card_of("bob", other))
            if may_meet(*cards):
                for turn in [0, 1]:
                    self.said(seated_by(one, other, turn), *cards, turn)

    def test_long_texts(self):
        chance = random.Random(221)
        for number in range(300):
            one, other = ["".join(chance.choices("wd", k=chance.randrange(60))) for side in range(2)]
            cards = (card_of("ann", one), card_of("bob", other))
            if may_meet(*cards):
                self.said(seated_by(one, other, number), *cards, number)


class Follows(unittest.TestCase):

    def test_who_is_bound_sits_on_that_side(self):
        for one, other in itertools.product(texts(6), repeat=2):
            cards = (card_of("ann", one), card_of("bob", other))
            if may_meet(*cards):
                for turn in [0, 1]:
                    side = "w" if at_window(*cards, turn) else "d"
                    self.assertIn(bound(one), ["", side], (one, other, turn))
                    self.assertNotEqual(bound(other), side, (one, other, turn))

    def test_who_is_not_bound_sits_on_either_side(self):
        free = [sides for sides in texts(5) if bound(sides) == ""]
        for sides in free:
            seated = {at_window(card_of("ann", sides), card_of("bob", other), 0) for other in ["ww", "dd"]}
            self.assertEqual(seated, {True, False})

    def test_good_sides_stay_good(self):
        good = [sides for sides in texts(8) if keeps(sides)]
        self.assertGreater(len(good), 100)
        for one, other in itertools.product(good, repeat=2):
            cards = (card_of("ann", one), card_of("bob", other))
            if may_meet(*cards):
                for turn in [0, 1]:
                    first = at_window(*cards, turn)
                    self.assertTrue(keeps(one + ("w" if first else "d")), (one, other, turn))
                    self.assertTrue(keeps(other + ("d" if first else "w")), (one, other, turn))

    def test_turns_that_are_played(self):
        # Who may meet is found by going through the guests; whoever finds nobody stays away from the turn.
        chance = random.Random(231)
        names = [one + other for one in "abcd" for other in "abcdefghij"]
        turns = []
        for number in range(30):
            chance.shuffle(names)
            waiting = [card(turns, name) for name in names]
            turn = []
            while waiting:
                one = waiting.pop(0)
                other = next((some for some in waiting if may_meet(one, some)), None)
                if other is not None:
                    waiting.remove(other)
                    two = (one[0], other[0]) if at_window(one, other, number) else (other[0], one[0])
                    turn.append(two + (chance.choice([0, 1, 2]),))
            turns.append(turn)
        cards = [card(turns, name) for name in names]
        self.assertGreater(min(len(one[2]) for one in cards), 15)
        for one in cards:
            self.assertTrue(keeps(one[2]), one)
            self.assertEqual(len(set(one[3])), len(one[3]))


class OnesOwn(unittest.TestCase):

    def test_the_same_is_told_each_time(self):
        cards = [card_of("ann", sides) for sides in texts(3)]
        others = [card_of("bob", sides, ("cid",)) for sides in texts(3)]
        told = [[(may_meet(one, other), at_window(one, other, 1)) for one in cards] for other in others]
        kept = copy.deepcopy((cards, others))
        for number in range(2):
            again = [[(may_meet(one, other), at_window(one, other, 1)) for one in cards] for other in others]
            self.assertEqual(again, told)
        self.assertEqual((cards, others), kept)


if __name__ == "__main__":
    unittest.main()

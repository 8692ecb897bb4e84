"""The house: who comes and goes (26), turns that are paired (27) or hindered (28), what is told of it (30, 2)."""

import copy
import random
import unittest

from rollcall.errors import Hindered, NoGuest, NoName, NotTold, TooFew
from rollcall.house import House
from rollcall.cards import card, standing
from samples import NO_NAMES, NO_TEXTS, Case, asked, house_of, tables_of, tell_all

FIVE = ["ann", "bob", "cid", "dan", "eve"]
LONGEST = "abcdefghijkl"


def away(house, *names):
    for name in names:
        house.leave(name)


def met_two_by_two(*names):
    """A house in which each two of the names have met, with nobody else here then, so that nobody has rested."""
    house = house_of(*names)
    away(house, *names)
    for place, one in enumerate(names):
        for other in names[place + 1:]:
            house.back(one)
            house.back(other)
            house.pair()
            house.tell(0, 1)
            away(house, one, other)
    for name in names:
        house.back(name)
    return house


class Guests(Case):

    def test_a_new_house(self):
        house = House()
        self.assertEqual(asked(house), ([], [], [], [], None))

    def test_who_enters_is_here(self):
        house = House()
        for number, name in enumerate(["bob", "ann", "z", LONGEST, "none", "rested"]):
            self.assertIsNone(house.enter(name))
            self.assertEqual(house.guests()[number:], [(name, True)])
        self.assertEqual([name for name, here in house.guests()], ["bob", "ann", "z", LONGEST, "none", "rested"])

    def test_what_is_no_name_does_not_enter(self):
        for house in [House(), house_of("ann", "bob")]:
            for thing in NO_NAMES + NO_TEXTS:
                with self.subTest(thing=thing):
                    self.refused(NoName, house, house.enter, thing)

    def test_a_name_that_has_entered_does_not_enter_again(self):
        house = house_of("ann", "bob")
        self.refused(NoName, house, house.enter, "ann")
        house.leave("ann")
        self.refused(NoName, house, house.enter, "ann")
        house.back("ann")
        self.refused(NoName, house, house.enter, "ann")
        house.pair()
        self.refused(NoName, house, house.enter, "bob")
        house.enter("cid")
        self.assertEqual(house.guests(), [("ann", True), ("bob", True), ("cid", True)])

    def test_who_leaves_is_away_and_who_comes_back_is_here(self):
        house = house_of("ann", "bob", "cid")
        self.assertIsNone(house.leave("bob"))
        self.assertEqual(house.guests(), [("ann", True), ("bob", False), ("cid", True)])
        self.assertIsNone(house.leave("ann"))
        self.assertEqual(house.guests(), [("ann", False), ("bob", False), ("cid", True)])
        self.assertIsNone(house.back("bob"))
        self.assertEqual(house.guests(), [("ann", False), ("bob", True), ("cid", True)])
        house.leave("bob")
        house.back("bob")
        house.back("ann")
        self.assertEqual(house.guests(), [("ann", True), ("bob", True), ("cid", True)])

    def test_here_is_a_truth(self):
        house = house_of("ann", "bob")
        house.leave("ann")
        self.assertIs(house.guests()[0][1], False)
        self.assertIs(house.guests()[1][1], True)
        self.assertTrue(all(type(row) is tuple for row in house.guests()))

    def test_who_is_away_does_not_leave(self):
        house = house_of("ann", "bob")
        house.leave("ann")
        self.refused(NoGuest, house, house.leave, "ann")
        away(house, "bob")
        self.refused(NoGuest, house, house.leave, "bob")

    def test_who_is_here_does_not_come_back(self):
        house = house_of("ann", "bob")
        self.refused(NoGuest, house, house.back, "ann")
        house.leave("ann")
        house.back("ann")
        self.refused(NoGuest, house, house.back, "ann")

    def test_who_never_entered(self):
        for house in [House(), house_of("ann", "bobby", "cid")]:
            for name in ["bob", "an", "anna", "dan", LONGEST]:
                for ask in [house.leave, house.back, house.card]:
                    self.refused(NoGuest, house, ask, name)

    def test_what_is_no_name_of_a_guest(self):
        for house in [House(), house_of("ann", "bob")]:
            for thing in NO_NAMES + NO_TEXTS:
                for ask in [house.leave, house.back, house.card]:
                    with self.subTest(thing=thing):
                        self.refused(NoGuest, house, ask, thing)

    def test_more_than_forty_guests(self):
        names = [one + other for one in "abcde" for other in "abcdefghij"]
        house = house_of(*names)
        self.assertEqual(house.guests(), [(name, True) for name in names])
        self.paired(house)

    def test_houses_are_apart(self):
        one, other = house_of("ann", "bob"), House()
        self.assertEqual(other.guests(), [])
        one.pair()
        self.assertEqual((other.turns(), other.reason()), ([], None))
        other.enter("ann")
        self.assertEqual(len(one.guests()), 2)


class Refused(Case):

    def test_too_few(self):
        house = House()
        self.refused(TooFew, house, house.pair)
        house.enter("ann")
        self.refused(TooFew, house, house.pair)
        house.enter("bob")
        house.leave("ann")
        self.refused(TooFew, house, house.pair)
        house.leave("bob")
        self.refused(TooFew, house, house.pair)

    def test_too_few_behind_turns_that_are_told(self):
        house = house_of("ann", "bob")
        house.pair()
        house.tell(0, 2)
        house.leave("ann")
        self.refused(TooFew, house, house.pair)

    def test_not_told(self):
        house = house_of(*FIVE)
        turn = house.pair()
        self.refused(NotTold, house, house.pair)
        house.tell(1, 0)
        self.refused(NotTold, house, house.pair)
        house.tell(0, 0)
        self.assertEqual(tables_of(turn), [0, 1])
        self.paired(house)
        self.refused(NotTold, house, house.pair)
        house.tell(0, 1)
        self.refused(NotTold, house, house.pair)

    def test_not_told_goes_ahead_of_too_few(self):
        house = house_of("ann", "bob")
        house.pair()
        away(house, "ann")
        self.refused(NotTold, house, house.pair)
        away(house, "bob")
        self.refused(NotTold, house, house.pair)
        house.tell(0, 0)
        self.refused(TooFew, house, house.pair)

    def test_not_told_goes_ahead_of_hindered(self):
        house = house_of("ann", "bob")
        house.pair()
        self.refused(NotTold, house, house.pair)
        house.tell(0, 1)
        self.assertEqual(self.hindered(house), [])

    def test_too_few_goes_ahead_of_hindered(self):
        house = house_of("ann", "bob", "cid")
        self.assertEqual(house.pair()[1], ("cid", "", 2))
        house.tell(0, 1)
        away(house, "ann", "bob")
        # Nobody is here but one who has rested.
        self.refused(TooFew, house, house.pair)
        house.leave("cid")
        house.back("bob")
        # One who hasn't rested could rest.
        self.refused(TooFew, house, house.pair)

    def test_a_refusal_does_not_hinder_what_comes_later(self):
        house = house_of("ann", "bob")
        house.pair()
        house.tell(0, 1)
        self.hindered(house)
        house.enter("cid")
        house.enter("dan")
        self.assertEqual(len(self.paired(house)), 2)


class Hindrance(Case):

    def test_two_who_have_met(self):
        house = house_of("ann", "bob")
        self.paired(house)
        house.tell(0, 0)
        self.assertEqual(self.hindered(house), [])

    def test_three_till_all_have_met(self):
        house = house_of("ann", "bob", "cid")
        for number in range(3):
            turn = self.paired(house)
            self.assertEqual(len(turn), 2)
            tell_all(house, 1)
        self.assertEqual(self.hindered(house), [])

    def test_a_guest_whom_all_others_need(self):
        house = met_two_by_two("ann", "bob", "cid")
        house.enter("dan")
        self.assertEqual(self.hindered(house), ["dan"])
        self.assertEqual(len(house.turns()), 3)

    def test_the_empty_chair_that_all_need(self):
        house = met_two_by_two("ann", "bob", "cid")
        self.assertEqual(self.hindered(house), [""])

    def test_a_guest_and_the_empty_chair(self):
        house = met_two_by_two("ann", "bob", "cid", "dan")
        house.enter("eve")
        # Without both of them there are four odd parts.
        self.assertEqual(self.hindered(house), ["eve", ""])

    def test_names_in_the_order_of_the_places(self):
        house = met_two_by_two(*FIVE)
        house.enter("zoe")
        house.enter("fay")
        away(house, *FIVE)
        house.pair()
        self.assertIn(house.turns()[-1][0][:2], [("zoe", "fay"), ("fay", "zoe")])
        house.tell(0, 1)
        for name in FIVE:
            house.back(name)
        # Seven guests, and all links go to zoe, fay and the empty chair: without these there are five odd parts.
        names = self.hindered(house)
        self.assertEqual(names, ["zoe", "fay", ""])
        self.assertEqual([row[0] for row in house.standing() if row[0] in names], ["zoe", "fay"])

    def test_names_are_by_the_standing_not_by_the_entering(self):
        house = met_two_by_two(*FIVE)
        house.enter("zoe")
        house.enter("fay")
        away(house, *FIVE)
        window = house.pair()[0][0]
        house.tell(0, 2 if window == "fay" else 0)
        for name in FIVE:
            house.back(name)
        self.assertEqual(self.hindered(house), ["fay", "zoe", ""])

    def test_guests_who_are_away_are_no_help(self):
        house = met_two_by_two("ann", "bob", "cid")
        house.enter("dan")
        house.enter("eve")
        house.enter("fay")
        away(house, "dan", "eve", "fay")
        self.assertEqual(self.hindered(house), [""])
        house.back("dan")
        house.back("eve")
        house.back("fay")
        self.paired(house)

    def test_the_names_are_the_askers_own(self):
        house = met_two_by_two("ann", "bob", "cid")
        house.enter("dan")
        names = self.hindered(house)
        names.append("more")
        names[0] = "none"
        before = asked(house)
        self.assertEqual(self.hindered(house), ["dan"])
        self.assertEqual(asked(house), before)
        self.assertEqual(names, ["none", "more"])


class Pairs(Case):

    def test_two_guests(self):
        house = house_of("ann", "bob")
        self.assertEqual(self.paired(house), [("ann", "bob", None)])

    def test_the_first_turn_of_an_even_number(self):
        house = house_of("bob", "ann", "dan", "cid")
        self.assertEqual(sorted(self.paired(house)), [("bob", "ann", None), ("dan", "cid", None)])

    def test_the_first_turn_of_an_odd_number(self):
        house = house_of(*FIVE)
        turn = self.paired(house)
        self.assertEqual(sorted(turn[:2]), [("ann", "bob", None), ("cid", "dan", None)])
        self.assertEqual(turn[2:], [("eve", "", 2)])

    def test_the_first_turn_of_every_number(self):
        names = [one + other for one in "abcde" for other in "abcdefghi"]
        for n in list(range(2, 12)) + [38, 39, 40, 41, 44]:
            with self.subTest(n=n):
                turn = self.paired(house_of(*names[:n]))
                wanted = [(names[place], names[place + 1], None) for place in range(0, n - 1, 2)]
                self.assertEqual(sorted(turn[:n // 2]), wanted)
                self.assertEqual(turn[n // 2:], [(names[n - 1], "", 2)] if n % 2 else [])

    def test_no_wishes_in_a_turn_with_an_odd_number(self):
        house = house_of("ann", "bob")
        house.pair()
        house.tell(0, 1)
        away(house, "ann", "bob")
        house.enter("cid")
        house.enter("dan")
        self.assertEqual(self.paired(house), [("dan", "cid", None)])
        house.tell(0, 1)
        away(house, "cid", "dan")
        house.enter("eve")
        house.enter("fay")
        self.assertEqual(self.paired(house), [("eve", "fay", None)])

    def test_those_with_alike_points_meet(self):
        house = house_of("ann", "bob", "cid", "dan")
        turn = self.paired(house)
        tell_all(house, [2 if table[0] == "ann" else 0 for table in turn])
        turn = self.paired(house)
        self.assertEqual(sorted(sorted(table[:2]) for table in turn), [["ann", "dan"], ["bob", "cid"]])

    def test_wishes_and_sides_of_the_second_turn(self):
        house = house_of("ann", "bob", "cid", "dan")
        self.paired(house)
        tell_all(house, 1)
        # Windows were ann and cid: they wish the door, and meet bob and dan, who wish the window.
        self.assertEqual(sorted(self.paired(house)), [("bob", "cid", None), ("dan", "ann", None)])

    def test_who_is_away_meets_nobody(self):
        house = house_of(*FIVE)
        away(house, "bob", "dan")
        turn = self.paired(house)
        self.assertEqual(turn, [("ann", "cid", None), ("eve", "", 2)])
        tell_all(house, 2)
        house.leave("ann")
        house.back("dan")
        house.back("bob")
        turn = self.paired(house)
        self.assertEqual(sorted(name for table in turn for name in table[:2]), ["bob", "cid", "dan", "eve"])

    def test_nobody_rests_twice(self):
        house = house_of(*FIVE)
        rests = []
        for number in range(4):
            turn = self.paired(house)
            rests.append(turn[-1][0])
            self.assertEqual(turn[-1], (rests[-1], "", 2))
            tell_all(house, 1)
        self.assertEqual(len(set(rests)), 4)

    def test_who_rests_has_the_least_points(self):
        house = house_of("ann", "bob", "cid", "dan")
        tell_all_by = {"ann": 2, "bob": 0, "cid": 2, "dan": 0}
        turn = self.paired(house)
        tell_all(house, [tell_all_by[table[0]] for table in turn])
        house.enter("eve")
        turn = self.paired(house)
        # bob, dan and eve have no points, ann and cid two each.
        self.assertIn(turn[-1][0], ["bob", "dan", "eve"])
        self.assertEqual(turn[-1][1:], ("", 2))
        self.assertIn(["ann", "cid"], [sorted(table[:2]) for table in turn])

    def test_costs_of_tables_tell_who_sits_where(self):
        house = house_of("ann", "bob", "cid", "dan")
        away(house, "cid", "dan")
        self.assertEqual(self.paired(house), [("ann", "bob", None)])
        house.tell(0, 1)
        away(house, "ann", "bob")
        house.back("cid")
        house.back("dan")
        self.assertEqual(self.paired(house), [("dan", "cid", None)])
        house.tell(0, 1)
        house.leave("dan")
        house.back("ann")
        house.enter("eve")
        house.enter("fay")
        # ann and cid, who are ahead, have both sat at the table 0.
        self.assertEqual(self.paired(house), [("eve", "fay", None), ("cid", "ann", None)])
        self.assertEqual(house.reason()[3], [[2, 0], [0, 0]])
        self.assertEqual(house.reason()[4][0], [1, 0])

    def test_turns_of_few_guests_against_all_pairings(self):
        chance = random.Random(271)
        for number in range(60):
            house = house_of(*["abcdefgh"[place] for place in range(chance.randrange(2, 9))])
            self.played(house, chance, 8)

    def played(self, house, chance, count):
        for turn in range(count):
            try:
                self.paired(house)
            except TooFew:
                self.assertLess(len([name for name, here in house.guests() if here]), 2)
            except Hindered:
                self.hindered(house)
            else:
                tell_all(house, [chance.choice([0, 1, 2]) for table in house.turns()[-1]])
            for name, here in house.guests():
                if chance.random() < 0.2:
                    house.leave(name) if here else house.back(name)


class Tells(Case):

    def test_cards_and_standing_of_turns(self):
        house = house_of(*FIVE)
        turn = house.pair()
        tell_all(house, [2 if table[0] == "ann" else 1 for table in turn])
        house.leave("eve")
        self.assertEqual(house.standing(), [("ann", 2, 0), ("eve", 2, 0), ("cid", 1, 1), ("dan", 1, 1), ("bob", 0, 2)])
        number = [table[0] for table in turn].index("ann")
        self.assertEqual(house.card("ann"), ("ann", 2, "w", ("bob",), False, (number,)))
        self.assertEqual(house.card("bob"), ("bob", 0, "d", ("ann",), False, (number,)))
        self.assertEqual(house.card("eve"), ("eve", 2, "", (), True, ()))

    def test_those_in_no_turn(self):
        house = house_of("bob", "ann")
        self.assertEqual(house.card("ann"), ("ann", 0, "", (), False, ()))
        self.assertEqual(house.standing(), [("bob", 0, 0), ("ann", 0, 0)])
        house.leave("bob")
        self.assertEqual(house.card("bob"), ("bob", 0, "", (), False, ()))
        self.assertEqual(house.standing(), [("bob", 0, 0), ("ann", 0, 0)])

    def test_results_that_are_not_told_count_nothing(self):
        house = house_of("ann", "bob", "cid")
        house.pair()
        self.assertEqual(house.standing(), [("cid", 2, 0), ("ann", 0, 0), ("bob", 0, 0)])
        self.assertEqual(house.card("ann"), ("ann", 0, "w", ("bob",), False, (0,)))

    def test_as_by_the_turns(self):
        chance = random.Random(301)
        house = house_of(*"abcdefghi")
        for number in range(6):
            house.pair()
            self.by_the_turns(house)
            tell_all(house, [chance.choice([0, 1, 2]) for table in house.turns()[-1]])
            self.by_the_turns(house)

    def by_the_turns(self, house):
        names = [name for name, here in house.guests()]
        turns = house.turns()
        self.assertEqual(house.standing(), standing(turns, names))
        for name in names:
            self.assertEqual(house.card(name), card(turns, name))


class OnesOwn(Case):

    def test_a_change_of_what_was_told_changes_nothing_later(self):
        house = house_of(*FIVE)
        turn = house.pair()
        kept = asked(house)
        turn.clear()
        for told in [house.guests(), house.turns(), house.standing()]:
            for row in told:
                if isinstance(row, list):
                    row.append(("zoe", "", 2))
                    row[0] = ("zoe", "yan", 2)
            told.reverse()
            told.append("more")
        self.assertEqual(asked(house), kept)
        house.turns()[0].clear()
        house.turns()[0][0] = ("bob", "ann", 0)
        self.assertEqual(asked(house), kept)

    def test_what_was_told_changes_by_nothing_later(self):
        house = house_of(*FIVE)
        turn = house.pair()
        told = (turn, house.guests(), house.turns(), house.standing(), house.card("ann"), house.reason())
        kept = copy.deepcopy(told)
        tell_all(house, 2)
        house.amend(0, 0, 1)
        house.leave("ann")
        house.enter("fay")
        house.pair()
        self.assertEqual(told, kept)
        self.assertNotEqual((house.turns()[0], house.guests()), kept[:2])

    def test_the_same_is_told_each_time(self):
        house = house_of(*FIVE)
        house.pair()
        first = asked(house)
        for number in range(3):
            self.assertEqual(asked(house), first)

    def test_two_houses_with_the_same_past_tell_the_same(self):
        told = []
        for number in range(2):
            house = house_of(*"abcdefghijklm")
            for turn in range(5):
                house.pair()
                tell_all(house, turn % 3)
            told.append(asked(house))
        self.assertEqual(told[0], told[1])


if __name__ == "__main__":
    unittest.main()

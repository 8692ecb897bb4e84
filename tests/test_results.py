"""Results that are told and amended (29), and the reason of the last turn that was paired (31; 2, 30)."""

import copy
import itertools
import random
import unittest

from rollcall.errors import Hindered, NoName, NoResult, NoTable, NotTold, RollError, Told, TooFew
from samples import NO_TEXTS, Case, asked, house_of, tables_of, tell_all

FIVE = ["ann", "bob", "cid", "dan", "eve"]
MANY_FIGURES = 10 ** 5000
# What is no whole number, such as look like one among them.
NO_WHOLES = [thing for thing in NO_TEXTS if type(thing) is not int] + ["", "0", "1", "2", "ann", [0], (0,), [[0], 1]]
TOO_HIGH = [10 ** 59, 10 ** 60 - 1, MANY_FIGURES]
BELOW = [-1, -2, -10 ** 59, -MANY_FIGURES]
NO_RESULTS = NO_WHOLES + [3, 4] + TOO_HIGH + BELOW


class Telling(Case):

    def test_each_result(self):
        for won in [0, 1, 2]:
            house = house_of("ann", "bob")
            house.pair()
            self.assertIsNone(house.tell(0, won))
            self.assertEqual(house.turns(), [[("ann", "bob", won)]])
            self.assertEqual([house.card(name)[1] for name in ["ann", "bob"]], [won, 2 - won])

    def test_each_table_in_any_order(self):
        for order in itertools.permutations(range(3)):
            house = house_of(*"abcdefg")
            turn = house.pair()
            self.assertEqual(tables_of(turn), [0, 1, 2])
            for table in order:
                house.tell(table, table)
                turn[table] = turn[table][:2] + (table,)
                self.assertEqual(house.turns(), [turn])
            self.assertEqual(turn[3], ("g", "", 2))

    def test_only_the_last_turn(self):
        house = house_of("ann", "bob", "cid", "dan")
        first = house.pair()
        tell_all(house, 1)
        second = house.pair()
        house.tell(1, 2)
        self.assertEqual(house.turns()[0], [table[:2] + (1,) for table in first])
        self.assertEqual(house.turns()[1], [second[0], second[1][:2] + (2,)])

    def test_no_turn(self):
        for house in [house_of(), house_of("ann", "bob")]:
            for table in [0, 1, -1] + NO_WHOLES + TOO_HIGH + BELOW:
                for won in [0, 1, 2, 3, None, "1"]:
                    self.refused(NoTable, house, house.tell, table, won)

    def test_no_table(self):
        house = house_of(*FIVE)
        house.pair()
        # The tables are 0 and 1; at 2 stands the rest, which is none.
        for table in [2, 3, 4] + NO_WHOLES + TOO_HIGH + BELOW:
            for won in [0, 1, 2, None, True, 7, []]:
                self.refused(NoTable, house, house.tell, table, won)

    def test_no_table_where_nobody_rests(self):
        house = house_of("ann", "bob", "cid", "dan")
        house.pair()
        for table in [2, 3, -1, -2, True, False]:
            self.refused(NoTable, house, house.tell, table, 1)

    def test_no_result(self):
        house = house_of(*FIVE)
        house.pair()
        for table in [0, 1]:
            for won in NO_RESULTS:
                self.refused(NoResult, house, house.tell, table, won)

    def test_no_result_goes_ahead_of_told(self):
        house = house_of(*FIVE)
        house.pair()
        house.tell(1, 2)
        for won in NO_RESULTS:
            self.refused(NoResult, house, house.tell, 1, won)

    def test_told(self):
        house = house_of(*FIVE)
        house.pair()
        for table in [0, 1]:
            house.tell(table, 2 * table)
            for won in [0, 1, 2]:
                self.refused(Told, house, house.tell, table, won)

    def test_a_result_of_nought_is_told(self):
        house = house_of("ann", "bob")
        house.pair()
        house.tell(0, 0)
        self.refused(Told, house, house.tell, 0, 0)
        house.amend(0, 0, 0)
        self.refused(Told, house, house.tell, 0, 2)
        house.enter("cid")
        house.enter("dan")
        self.paired(house)

    def test_who_is_away_gets_their_result(self):
        house = house_of("ann", "bob")
        house.pair()
        house.leave("ann")
        house.tell(0, 2)
        self.assertEqual(house.card("ann")[1], 2)
        house.leave("bob")
        house.amend(0, 0, 0)
        self.assertEqual(house.card("bob")[1], 2)


class Amending(Case):

    def setUp(self):
        self.house = house_of(*FIVE)
        self.house.pair()
        tell_all(self.house, 1)
        self.house.pair()
        self.house.tell(0, 0)

    def test_each_result_of_each_turn(self):
        for turn, table in [(0, 0), (0, 1), (1, 0)]:
            for won in [0, 1, 2, 2, 1, 0]:
                wanted = self.house.turns()
                wanted[turn][table] = wanted[turn][table][:2] + (won,)
                self.assertIsNone(self.house.amend(turn, table, won))
                self.assertEqual(self.house.turns(), wanted)
                self.assertEqual(self.house.standing(), self.standing_by(wanted))

    def standing_by(self, turns):
        points = {name: 0 for name in FIVE}
        met = {name: [] for name in FIVE}
        for window, door, won in [table for turn in turns for table in turn]:
            points[window] += won or 0
            if door:
                points[door] += 0 if won is None else 2 - won
                met[window].append(door)
                met[door].append(window)
        rows = [(name, points[name], sum(points[other] for other in met[name])) for name in FIVE]
        return sorted(rows, key=lambda row: (-row[1], -row[2]))

    def test_no_turn(self):
        for turn in [2, 3] + NO_WHOLES + TOO_HIGH + BELOW:
            for table, won in [(0, 1), (0, 9), (7, 1), ("0", None), (True, True)]:
                self.refused(NoTable, self.house, self.house.amend, turn, table, won)

    def test_no_turn_at_all(self):
        for house in [house_of(), house_of("ann", "bob")]:
            for turn in [0, 1, -1, True, None, [], "0"]:
                for table, won in [(0, 1), (0, None), (-1, 2)]:
                    self.refused(NoTable, house, house.amend, turn, table, won)

    def test_no_table(self):
        for turn in [0, 1]:
            for table in [2, 3] + NO_WHOLES + TOO_HIGH + BELOW:
                for won in [0, 1, 2, None, True, 7, []]:
                    self.refused(NoTable, self.house, self.house.amend, turn, table, won)

    def test_a_rest_is_no_table(self):
        for turn in [0, 1]:
            self.assertEqual(self.house.turns()[turn][2][1:], ("", 2))
            self.refused(NoTable, self.house, self.house.amend, turn, 2, 2)

    def test_tables_of_each_turn_alone(self):
        house = house_of("ann", "bob", "cid", "dan")
        house.pair()
        tell_all(house, 1)
        house.leave("ann")
        house.leave("bob")
        house.enter("eve")
        turn = house.pair()
        tell_all(house, 1)
        self.assertEqual(tables_of(turn), [0])
        house.amend(0, 1, 2)
        self.refused(NoTable, house, house.amend, 1, 1, 2)

    def test_no_result(self):
        for turn, table in [(0, 0), (0, 1), (1, 0), (1, 1)]:
            # The table 1 of the turn 1 isn't told: NoResult goes ahead of NotTold.
            for won in NO_RESULTS:
                self.refused(NoResult, self.house, self.house.amend, turn, table, won)

    def test_not_told(self):
        for won in [0, 1, 2]:
            self.refused(NotTold, self.house, self.house.amend, 1, 1, won)
        self.house.tell(1, 2)
        self.house.amend(1, 1, 0)
        self.assertEqual(self.house.turns()[1][1][2], 0)

    def test_amended_results_count_when_a_turn_is_paired(self):
        # With ann's and cid's wins bob meets dan, with ann's and dan's bob meets cid.
        for won, wanted in [([2, 2], ["bob", "dan"]), ([2, 0], ["bob", "cid"])]:
            house = house_of("ann", "bob", "cid", "dan")
            turn = house.pair()
            tell_all(house, 1)
            for table, (window, door, none) in enumerate(turn):
                house.amend(0, table, won["ac".index(window[0])])
            self.assertIn(wanted, [sorted(table[:2]) for table in self.paired(house)])


class Reasons(Case):

    def test_none_ahead_of_the_first_turn(self):
        house = house_of()
        self.assertIsNone(house.reason())
        self.refused(TooFew, house, house.pair)
        for name in FIVE:
            house.enter(name)
        self.assertIsNone(house.reason())

    def test_two_guests(self):
        house = house_of("ann", "bob")
        house.pair()
        names, worries, told, costs, dealing = house.reason()
        self.assertEqual((names, worries, told[:2]), (["ann", "bob"], [(0, 1, 0)], ("paired", [(0, 1)])))
        self.assertEqual((sum(told[2]), told[3]), (0, []))
        self.assertEqual((costs, dealing[0], dealing[1][0] + dealing[2][0]), ([[0]], [0], 0))

    def test_an_empty_chair_stands_behind(self):
        house = house_of("ann", "bob", "cid")
        house.pair()
        reason = house.reason()
        self.assertEqual(reason[0], ["ann", "bob", "cid", ""])
        self.assertEqual(reason[1], [(0, 1, 0), (0, 2, 1), (0, 3, 2), (1, 2, 0), (1, 3, 1), (2, 3, 0)])
        self.assertEqual(reason[2][1], [(0, 1), (2, 3)])
        self.assertEqual(reason[3], [[0]])
        house.tell(0, 0)
        house.leave("cid")
        house.enter("dan")
        house.pair()
        self.assertEqual(house.reason()[0], ["bob", "ann", "dan", ""])

    def test_names_in_the_order_of_their_places(self):
        house = house_of("ann", "bob", "cid", "dan")
        turn = house.pair()
        self.assertEqual(house.reason()[0], ["ann", "bob", "cid", "dan"])
        tell_all(house, [0 if table[0] == "ann" else 1 for table in turn])
        house.pair()
        self.assertEqual(house.reason()[0], ["bob", "cid", "dan", "ann"])

    def test_kinds(self):
        house = house_of(*FIVE)
        house.pair()
        reason = house.reason()
        self.assertEqual([type(thing) for thing in reason], [list, list, tuple, list, tuple])
        self.assertEqual([type(thing) for thing in reason[2]], [str, list, list, list])
        self.assertEqual([type(thing) for thing in reason[4]], [list, list, list])

    def test_it_is_the_same_until_a_turn_is_paired_again(self):
        house = house_of(*FIVE)
        house.pair()
        first = house.reason()
        steps = [
            lambda: house.pair(), lambda: house.tell(0, 2), lambda: house.tell(0, 1), lambda: house.tell(9, 1),
            lambda: house.tell(1, 0), lambda: house.amend(0, 0, 0), lambda: house.amend(0, 1, 2),
            lambda: house.amend(0, 2, 2), lambda: house.leave("ann"), lambda: house.leave("ann"),
            lambda: house.enter("fay"), lambda: house.enter("fay"), lambda: house.back("ann"), lambda: house.turns(),
            lambda: house.card("bob"), lambda: house.standing(), lambda: house.card("zoe")]
        refused = []
        for number, step in enumerate(steps):
            try:
                step()
            except RollError as error:
                refused.append((number, type(error)))
            self.assertEqual(house.reason(), first, number)
        self.assertEqual([number for number, error in refused], [0, 2, 3, 7, 9, 11, 16])
        self.assertEqual(refused[5], (11, NoName))
        house.pair()
        self.assertNotEqual(house.reason(), first)

    def test_hindered_and_too_few_change_no_reason(self):
        house = house_of("ann", "bob")
        house.pair()
        first = house.reason()
        house.tell(0, 0)
        self.refused(Hindered, house, house.pair)
        self.assertEqual(house.reason(), first)
        house.leave("bob")
        self.refused(TooFew, house, house.pair)
        self.assertEqual(house.reason(), first)

    def test_amended_results_change_no_reason(self):
        chance = random.Random(311)
        house = house_of(*"abcdefghij")
        for number in range(5):
            self.paired(house)
            reason = house.reason()
            tell_all(house, [chance.choice([0, 1, 2]) for table in range(5)])
            for turn, table in itertools.product(range(number + 1), range(5)):
                house.amend(turn, table, chance.choice([0, 1, 2]))
            self.assertEqual(house.reason(), reason)

    def test_what_was_told_is_the_askers_own(self):
        house = house_of(*FIVE)
        for number in range(3):
            house.pair()
            kept = house.reason()
            told = house.reason()
            for thing in self.lists_in(told):
                thing.append("more")
                thing.reverse()
            self.assertNotEqual(told, kept)
            self.assertEqual(house.reason(), kept)
            tell_all(house, 1)
            for thing in self.lists_in(told):
                thing.clear()
            self.assertEqual(house.reason(), kept)
        self.assertEqual(len(self.paired(house)), 3)

    def lists_in(self, thing):
        """All lists in a tuple or list, the innermost ones first."""
        if not isinstance(thing, (list, tuple)):
            return []
        found = [inner for one in thing for inner in self.lists_in(one)]
        return found + [thing] if isinstance(thing, list) else found

    def test_each_list_told_is_a_new_one(self):
        house = house_of(*FIVE)
        house.pair()
        one, other = self.lists_in(house.reason()), self.lists_in(house.reason())
        self.assertEqual(len(one), len(other))
        self.assertFalse({id(thing) for thing in one} & {id(thing) for thing in other})

    def test_what_was_told_changes_by_nothing_later(self):
        house = house_of(*"abcdefghi")
        told = []
        for number in range(5):
            house.pair()
            told.append(house.reason())
            kept = copy.deepcopy(told)
            tell_all(house, number % 3)
            house.amend(0, 0, number % 3)
            asked(house)
            self.assertEqual(told, kept)


if __name__ == "__main__":
    unittest.main()

"""Worries of those who may meet or rest (24), and the costs of tables (25); what is told is the asker's own (2)."""

import copy
import itertools
import random
import unittest

from rollcall.cards import card, standing
from rollcall.worries import table_costs, worries
from samples import card_of, some_turn, texts, three_of, worries_by, worth_of

BIG = 10 ** 60 - 1
SQUARE = 10 ** 12
ALIKE = 10 ** 6
NAMES = [one + other for one in "abcdefg" for other in "abcdefg"]


def with_points(*points):
    """Cards without sides, such as have rested: nothing but the points has a say."""
    return [card_of(name, "", (), some, True) for name, some in zip(NAMES, points)]


def with_sides(*sides):
    return [card_of(name, some, (), 0, True) for name, some in zip(NAMES, sides)]


def some_card(name, chance):
    sides = "".join(chance.choices("wd", k=chance.randrange(6)))
    met = tuple(chance.sample(NAMES, chance.randrange(4)))
    points = chance.choice([chance.randrange(4), chance.randrange(80), -5, BIG])
    return card_of(name, sides, met, points, chance.random() < 0.4, tuple(range(len(sides))))


def some_pairing(n, chance):
    places = list(range(n))
    chance.shuffle(places)
    return sorted([tuple(sorted(places[begin:begin + 2])) for begin in range(0, n, 2)])


class Worries(unittest.TestCase):

    def said(self, wanted, cards):
        kept = copy.deepcopy(cards)
        told = worries(cards)
        self.assertEqual(told, wanted, cards)
        self.assertEqual(cards, kept)
        self.assertIs(type(told), list)
        for row in told:
            self.assertIs(type(row), tuple)
            self.assertEqual([type(number) for number in row], [int, int, int])

    def test_no_cards(self):
        self.said([], [])

    def test_one_card(self):
        for points in [0, 1, 7, -3, BIG]:
            for sides in ["", "w", "ww", "wdd"]:
                self.said([(0, 1, 0)], [card_of("ann", sides, ("bob",), points, False)])
                self.said([], [card_of("ann", sides, ("bob",), points, True)])

    def test_two_cards_without_an_empty_chair(self):
        for rested in itertools.product([True, False], repeat=2):
            cards = [card_of(name, "", (), 0, some) for name, some in zip(["ann", "bob"], rested)]
            self.said([(0, 1, 0)], cards)

    def test_three_cards_with_an_empty_chair(self):
        for rested in itertools.product([True, False], repeat=3):
            cards = [card_of(name, "", (), 0, some) for name, some in zip(["ann", "bob", "cid"], rested)]
            chair = [(u, 3, 2 - u) for u in range(3) if not rested[u]]
            self.said(sorted([(0, 1, 0), (0, 2, 1), (1, 2, 0)] + chair), cards)

    def test_points_that_differ(self):
        for one, other in itertools.product([0, 1, 2, 3, 10, 79, -4, BIG], repeat=2):
            self.said([(0, 1, (one - other) ** 2 * SQUARE)], with_points(one, other))

    def test_wishes_alike_of_every_kind(self):
        # Wishes of those who aren't bound; alike ones, but "", add to the worry.
        wished = {"w": "d", "d": "w", "wd": "w", "dw": "d", "wdw": "d", "dwd": "w", "": ""}
        for one, other in itertools.product(wished, repeat=2):
            alike = wished[one] == wished[other] != ""
            self.said([(0, 1, ALIKE if alike else 0)], with_sides(one, other))

    def test_wishes_of_such_as_are_bound(self):
        for one, other in [("ww", "w"), ("w", "dww"), ("dd", "d"), ("wd", "wdd"), ("ddww", "dw")]:
            self.said([(0, 1, ALIKE)], with_sides(one, other))
        for one, other in [("ww", "dd"), ("ww", "d"), ("ww", ""), ("", "dd"), ("wdd", "dww"), ("wd", "ww")]:
            self.said([(0, 1, 0)], with_sides(one, other))

    def test_no_wishes_add_nothing(self):
        self.said([(0, 1, 0)], with_sides("", ""))
        self.said([(0, 1, 0), (0, 2, 1), (0, 3, 2), (1, 2, 0), (1, 3, 1), (2, 3, 0)], with_sides("", "", "", ""))

    def test_who_may_not_meet_stands_in_no_tuple(self):
        self.said([], with_sides("ww", "ww"))
        self.said([], with_sides("dd", "wdd"))
        self.said([], [card_of("ann", "w", ("bob",)), card_of("bob", "d", ("ann",))])
        self.said([], [card_of("ann", "", ("bob",)), card_of("bob", "")])
        self.said([], [card_of("ann", ""), card_of("bob", "", ("cid", "ann"))])
        cards = with_sides("ww", "ww", "dd", "dd")
        self.said([(0, 2, 1), (0, 3, 2), (1, 2, 0), (1, 3, 1)], cards)

    def test_the_last_number(self):
        for n in [4, 10, 40, 42]:
            told = {(u, v): worry for u, v, worry in worries(with_points(*[3] * n))}
            self.assertEqual(len(told), n * (n - 1) // 2)
            for (u, v), worry in told.items():
                self.assertEqual(worry, v - u - 1)

    def test_all_three_together(self):
        cards = [card_of("ann", "w", (), 9), card_of("bob", "", (), 7), card_of("cid", "wdw", (), 6),
                 card_of("dan", "d", (), 4)]
        self.said([(0, 1, 4 * SQUARE), (0, 2, 9 * SQUARE + ALIKE + 1), (0, 3, 25 * SQUARE + 2),
                   (1, 2, SQUARE), (1, 3, 9 * SQUARE + 1), (2, 3, 4 * SQUARE)], cards)

    def test_the_empty_chair(self):
        cards = [card_of("ann", "ww", (), 9), card_of("bob", "ww", (), 7, True), card_of("cid", "ww", (), 6),
                 card_of("dan", "ww", (), 8), card_of("eve", "ww", (), 4, True)]
        # The least points are eve's, though she may not rest.
        self.said([(0, 5, 25 * SQUARE + 4), (2, 5, 4 * SQUARE + 2), (3, 5, 16 * SQUARE + 1)], cards)

    def test_wishes_have_no_say_in_a_rest(self):
        for sides in texts(3):
            cards = [card_of("ann", sides, (), 2), card_of("bob", "w", ("ann", "cid"), 1, True),
                     card_of("cid", "d", ("ann", "bob"), 0)]
            self.said([(0, 3, 4 * SQUARE + 2), (2, 3, 0)], cards)

    def test_the_empty_chair_is_behind_all_others(self):
        for n in [1, 3, 5, 39, 41]:
            cards = [card_of(name, "") for name in NAMES[:n]]
            told = worries(cards)
            self.assertEqual([row for row in told if row[1] == n], [(u, n, n - 1 - u) for u in range(n)])
            self.assertEqual(max(v for u, v, worry in told), n)
        for n in [2, 4, 40]:
            cards = [card_of(name, "") for name in NAMES[:n]]
            self.assertEqual(max(v for u, v, worry in worries(cards)), n - 1)

    def test_points_below_nought_and_of_sixty_figures(self):
        self.said([(0, 1, (2 * BIG) ** 2 * SQUARE)], with_points(BIG, -BIG))
        cards = [card_of("ann", "ww", (), BIG), card_of("bob", "ww", (), -BIG), card_of("cid", "ww", (), -3, True)]
        self.said([(0, 3, (2 * BIG) ** 2 * SQUARE + 2), (1, 3, 1)], cards)

    def test_in_order(self):
        chance = random.Random(241)
        for n in [5, 12, 39, 40]:
            told = worries([some_card(name, chance) for name in NAMES[:n]])
            self.assertEqual(told, sorted(told))
            self.assertEqual(len({row[:2] for row in told}), len(told))

    def test_some_cards(self):
        chance = random.Random(242)
        for number in range(300):
            names = chance.sample(NAMES, chance.randrange(0, 9))
            cards = [some_card(name, chance) for name in names]
            self.said(worries_by(cards), cards)

    def test_many_cards(self):
        chance = random.Random(243)
        for n in [38, 39, 40, 41, 42]:
            cards = [some_card(name, chance) for name in chance.sample(NAMES, n)]
            self.said(worries_by(cards), cards)

    def test_cards_of_turns(self):
        chance = random.Random(244)
        for number in range(30):
            names = chance.sample(NAMES, chance.randrange(2, 12))
            turns = [some_turn(names, chance) for turn in range(chance.randrange(6))]
            cards = [card(turns, row[0]) for row in standing(turns, names)]
            self.said(worries_by(cards), cards)


class Better(unittest.TestCase):

    def compared(self, cards, one, other):
        """The lesser worth is that of the lesser squares, then of the fewer alike wishes, then of the last numbers."""
        told = worries(cards)
        threes = [[three_of(cards, u, v) for u, v in pairing] for pairing in (one, other)]
        sums = [tuple(map(sum, zip(*three))) for three in threes]
        worths = [worth_of(told, pairing) for pairing in (one, other)]
        self.assertEqual(worths[0] < worths[1], sums[0] < sums[1])
        self.assertEqual(worths[0] == worths[1], sums[0] == sums[1])

    def test_squares_go_ahead_of_all_wishes(self):
        # 40 guests in twenty pairs with alike wishes, or a single square of 1 more without them.
        sides = ["w", "w", "d", "d"] * 10
        for points in [[0] * 40, [1] + [0] * 39]:
            cards = [card_of(name, side, (), some) for name, side, some in zip(NAMES, sides, points)]
            alike = [(u, u + 1) for u in range(0, 40, 2)]
            unlike = sorted([(u, u + 2) for u in range(0, 40, 4)] + [(u + 1, u + 3) for u in range(0, 40, 4)])
            self.compared(cards, alike, unlike)
        cards = [card_of(name, side, (), 2 if place in (0, 1) else 1 if place == 2 else 0)
                 for place, (name, side) in enumerate(zip(NAMES, sides))]
        self.compared(cards, alike, unlike)
        told = worries(cards)
        self.assertLess(worth_of(told, alike), worth_of(told, unlike))

    def test_wishes_go_ahead_of_all_last_numbers(self):
        far = [(u, 39 - u) for u in range(20)]
        near = [(u, u + 1) for u in range(0, 40, 2)]
        for first in ["", "w", "d"]:
            cards = [card_of(name, "") for name in NAMES[:40]]
            cards[0], cards[1] = card_of(NAMES[0], first), card_of(NAMES[1], "w")
            self.compared(cards, far, near)
            told = worries(cards)
            self.assertEqual(worth_of(told, far) < worth_of(told, near), first == "w")

    def test_some_pairings(self):
        chance = random.Random(245)
        for number in range(200):
            n = chance.choice([4, 6, 8, 20, 39, 40])
            sides = chance.choice([["", "w", "d", "wd", "dw"], ["w", "d"], ["w"], [""]])
            most = chance.choice([0, 1, 2, 80])
            cards = [card_of(name, chance.choice(sides), (), chance.randint(0, most)) for name in NAMES[:n]]
            pairings = [some_pairing(n + n % 2, chance) for side in range(2)]
            self.compared(cards, *pairings)


class TableCosts(unittest.TestCase):

    def said(self, wanted, pairs):
        kept = copy.deepcopy(pairs)
        told = table_costs(pairs)
        self.assertEqual(told, wanted, pairs)
        self.assertEqual(pairs, kept)
        self.assertIs(type(told), list)
        self.assertTrue(all(type(row) is list for row in told))
        self.assertTrue(all(type(number) is int for row in told for number in row))
        self.assertEqual(len({id(row) for row in told}), len(pairs))

    def of_tables(self, wanted, *tables):
        self.said(wanted, [(card_of("ann", "", (), 0, False, one), card_of("bob", "", (), 0, True, other))
                           for one, other in tables])

    def test_no_pairs(self):
        self.said([], [])

    def test_one_pair(self):
        self.of_tables([[0]], ((), ()))
        self.of_tables([[1]], ((0,), ()))
        self.of_tables([[1]], ((), (0,)))
        self.of_tables([[2]], ((0,), (0,)))
        self.of_tables([[5]], ((0, 0), (0, 0, 0)))

    def test_tables_of_higher_numbers_are_left_out(self):
        self.of_tables([[0]], ((1, 2, 19), (1,)))
        self.of_tables([[1]], ((1, 0, 2), (3, 19)))
        self.of_tables([[0, 1], [0, 0]], ((2, 3, 1), (2,)), ((2,), (4, 40)))
        self.of_tables([[0, 0], [0, 0]], ((2,), (2, 2)), ((BIG,), (2,)))

    def test_who_sat_twice_at_a_table(self):
        self.of_tables([[2, 0], [0, 3]], ((0, 0), ()), ((1,), (1, 2, 1)))
        self.of_tables([[0, 2], [2, 1]], ((1, 2, 1), (2,)), ((), (0, 1, 0)))

    def test_both_at_the_same_table(self):
        self.of_tables([[0, 2], [2, 0]], ((1,), (1,)), ((0, 2), (2, 0)))
        self.of_tables([[2, 1, 1], [0, 0, 4], [0, 0, 0]], ((0, 1), (2, 0)), ((2, 2), (2, 2)), ((3,), (3,)))

    def test_nothing_else_has_a_say(self):
        tables = [((0, 1), (1,)), ((), (0,))]
        for sides, met, points, rested in [("", (), 0, False), ("ww", ("bob",), BIG, True), ("d", ("x", "x"), -1, True)]:
            pairs = [(card_of("ann", sides, met, points, rested, one), card_of("ann", "w", (), 3, False, other))
                     for one, other in tables]
            self.said([[1, 2], [1, 0]], pairs)

    def test_some_pairs(self):
        chance = random.Random(251)
        for number in range(100):
            count = chance.choice([1, 2, 3, 5, 19, 20, 21, 22])
            tables = [[tuple(chance.randrange(25) for turn in range(chance.randrange(40))) for side in range(2)]
                      for pair in range(count)]
            wanted = []
            for one, other in tables:
                row = [0] * count
                for table in one + other:
                    if table < count:
                        row[table] += 1
                wanted.append(row)
            self.of_tables(wanted, *tables)


class OnesOwn(unittest.TestCase):

    def test_a_change_of_what_was_told_changes_nothing_later(self):
        cards = [card_of("ann", "", tables=(0,)), card_of("bob", "w"), card_of("cid", "d", (), 4, True, (1,))]
        pairs = [(cards[0], cards[1]), (cards[1], cards[2])]
        for ask, handed in [(worries, cards), (table_costs, pairs), (worries, []), (table_costs, [])]:
            kept = copy.deepcopy(handed)
            told = ask(handed)
            wanted = copy.deepcopy(told)
            for row in told:
                if isinstance(row, list):
                    row.append(7)
            told.append("more")
            self.assertEqual(ask(handed), wanted)
            self.assertEqual(handed, kept)

    def test_a_change_of_what_was_handed_in_changes_nothing_told(self):
        cards = [card_of("ann", ""), card_of("bob", "w")]
        pairs = [(cards[0], cards[1])]
        told = (worries(cards), table_costs(pairs))
        cards.clear()
        pairs.append(pairs[0])
        self.assertEqual(told, ([(0, 1, 0)], [[0]]))


if __name__ == "__main__":
    unittest.main()

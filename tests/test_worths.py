"""What a pairing is worth (11), and whether what is told shows what it says (12, 14); nothing is changed (2)."""

import copy
import itertools
import random
import unittest

from rollcall.best import best
from rollcall.nets import odd_parts
from rollcall.worths import shows, worth
from samples import NESTED, all_links, far_worries, net_of, price_on, some_worries, worth_of

BIG = 10 ** 60 - 1
HUGE = 10 ** 999
# Four places, all linked, each worry 1; the prices 1 show each of the three full pairings to be best.
ALIKE = [(u, v, 1) for u, v in all_links(4)]
# Two threes, without worries within, with one link of the worry 7 between: it takes groups to show that it must be.
THREES = [(0, 1, 0), (0, 2, 0), (1, 2, 0), (3, 4, 0), (3, 5, 0), (4, 5, 0), (2, 3, 7)]
ACROSS = [(0, 1), (2, 3), (4, 5)]
# The places 0 and 1 are linked to all others, which are linked to no other.
HUBS = [(0, 1, 5)] + [(hub, place, 5) for hub in [0, 1] for place in [2, 3, 4, 5]]


def moved(prices, rise, fall):
    """The prices with one more for the one place and one fewer for the other."""
    return [price + (place == rise) - (place == fall) for place, price in enumerate(prices)]


class Worth(unittest.TestCase):

    def test_of_no_links(self):
        self.assertEqual(worth([], []), 0)
        self.assertEqual(worth([(0, 1, 5)], []), 0)

    def test_the_sum_of_its_links_alone(self):
        worries = [(0, 1, 1), (0, 2, 10), (1, 2, 100), (2, 3, 1000)]
        self.assertEqual(worth(worries, [(0, 2)]), 10)
        self.assertEqual(worth(worries, [(0, 1), (2, 3)]), 1001)

    def test_of_either_sign(self):
        self.assertEqual(worth([(0, 1, -5), (2, 3, 3)], [(0, 1), (2, 3)]), -2)
        self.assertEqual(worth([(0, 1, -5), (2, 3, 0)], [(0, 1), (2, 3)]), -5)
        self.assertEqual(worth([(0, 1, -5), (2, 3, 5)], [(0, 1), (2, 3)]), 0)

    def test_of_sixty_figures(self):
        worries = [(0, 1, BIG), (2, 3, BIG), (4, 5, -BIG), (6, 7, 1)]
        self.assertEqual(worth(worries, [(0, 1), (2, 3)]), 2 * 10 ** 60 - 2)
        self.assertEqual(worth(worries, [(0, 1), (4, 5), (6, 7)]), 1)
        self.assertEqual(worth(worries, [(4, 5)]), 1 - 10 ** 60)

    def test_in_any_order(self):
        worries = [(0, 5, 1), (1, 4, 10), (2, 3, 100), (0, 1, 1000)]
        for some in itertools.permutations(worries):
            for pairing in itertools.permutations([(0, 5), (1, 4), (2, 3)]):
                self.assertEqual(worth(list(some), list(pairing)), 111)

    def test_of_forty_places(self):
        chance = random.Random(11)
        worries = some_worries(40, 1, BIG, chance)
        pairing = [(place, 39 - place) for place in range(20)]
        self.assertEqual(worth(worries, pairing), worth_of(worries, pairing))
        self.assertIs(type(worth(worries, pairing)), int)


class Shows(unittest.TestCase):

    def said(self, wanted, n, worries, told):
        kept = copy.deepcopy((worries, told))
        self.assertIs(shows(n, worries, told), wanted, (n, worries, told))
        self.assertEqual((worries, told), kept)


class Paired(Shows):

    def test_no_places(self):
        self.said(True, 0, [], ("paired", [], [], []))
        self.said(False, 0, [], ("paired", [], [0], []))
        self.said(False, 0, [], ("paired", [(0, 1)], [], []))
        self.said(False, 0, [], ("paired", [], [], [((0, 1, 2), 0)]))

    def test_a_place_that_is_alone(self):
        self.said(False, 1, [], ("paired", [], [0], []))
        self.said(False, 3, [(0, 1, 0)], ("paired", [(0, 1)], [0, 0, 0], []))

    def test_ordinary_ones(self):
        for pairing in [[(0, 1), (2, 3)], [(0, 2), (1, 3)], [(0, 3), (1, 2)]]:
            self.said(True, 4, ALIKE, ("paired", pairing, [1, 1, 1, 1], []))
        self.said(True, 2, [(0, 1, 5)], ("paired", [(0, 1)], [3, 7], []))
        self.said(True, 2, [(0, 1, -5)], ("paired", [(0, 1)], [-13, 3], []))
        self.said(True, 6, THREES, ("paired", ACROSS, [0] * 6, [((0, 1, 2), 14)]))
        self.said(True, 6, THREES, ("paired", ACROSS, [0] * 6, [((3, 4, 5), 14)]))
        self.said(True, 6, THREES, ("paired", ACROSS, [0, 0, 0, 0, 0, 0], [((3, 4, 5), 9), ((0, 1, 2), 5)]))

    def test_the_worries_in_any_order(self):
        for worries in itertools.permutations(ALIKE):
            self.said(True, 4, list(worries), ("paired", [(0, 3), (1, 2)], [1, 1, 1, 1], []))
        self.said(True, 6, THREES[::-1], ("paired", ACROSS, [0] * 6, [((0, 1, 2), 14)]))

    def test_groups_that_are_not_needed(self):
        self.said(True, 4, ALIKE, ("paired", [(0, 1), (2, 3)], [1, 1, 1, 1], [((0, 1, 2), 0), ((1, 2, 3), 0)]))
        self.said(True, 6, THREES, ("paired", ACROSS, [0] * 6, [((0, 1, 2), 13), ((0, 1, 2), 1)]))
        self.said(True, 6, THREES, ("paired", ACROSS, [0] * 6, [((0, 1, 2), 14), ((0, 1, 2, 3, 4), 0)]))

    def test_a_group_counts_where_just_one_end_lies_in_it(self):
        self.said(True, 4, ALIKE, ("paired", [(0, 1), (2, 3)], [1, 1, 1, -1], [((0, 1, 2), 2)]))
        self.said(False, 4, ALIKE, ("paired", [(0, 1), (2, 3)], [1, 1, 1, 0], [((0, 1, 2), 2)]))

    def test_a_pairing_that_is_not_the_best(self):
        worries = [(0, 1, 5), (2, 3, 5), (0, 2, 1), (1, 3, 1), (0, 3, 9), (1, 2, 9)]
        self.said(True, 4, worries, ("paired", [(0, 2), (1, 3)], [1, 1, 1, 1], []))
        for prices in [[1, 1, 1, 1], [5, 5, 5, 5], [9, 1, 9, 1], [1, 9, 1, 9], [4, 4, 6, 6]]:
            self.said(False, 4, worries, ("paired", [(0, 1), (2, 3)], prices, []))
            self.said(False, 4, worries, ("paired", [(0, 3), (1, 2)], prices, []))

    def test_a_price_one_more_or_fewer(self):
        for place in range(4):
            for wrong in [0, 2]:
                prices = [wrong if one == place else 1 for one in range(4)]
                self.said(False, 4, ALIKE, ("paired", [(0, 1), (2, 3)], prices, []))
        for price in [13, 15]:
            self.said(False, 6, THREES, ("paired", ACROSS, [0] * 6, [((0, 1, 2), price)]))

    def test_a_row_that_does_not_hold_while_the_sum_does(self):
        for rise, fall in itertools.permutations(range(4), 2):
            prices = moved([1, 1, 1, 1], rise, fall)
            self.said(False, 4, ALIKE, ("paired", [(0, 1), (2, 3)], prices, []))
        self.said(False, 6, THREES, ("paired", ACROSS, [0] * 6, [((0, 1, 3), 14)]))
        self.said(False, 6, THREES, ("paired", ACROSS, [0, 0, 7, 7, 0, 0], []))
        self.said(False, 6, THREES, ("paired", ACROSS, [0] * 6, [((0, 1, 2), 14), ((0, 1, 3), 0), ((3, 4, 5), 1)]))

    def test_too_many_or_too_few_prices(self):
        for prices in [[1, 1, 2], [4], [], [1, 1, 1, 1, 0], [1, 1, 1, 0, 1], [1, 1, 1, 1, 1, -1]]:
            self.said(False, 4, ALIKE, ("paired", [(0, 1), (2, 3)], prices, []))
        self.said(False, 4, [(0, 1, 0), (2, 3, 0)], ("paired", [(0, 1), (2, 3)], [], []))
        self.said(False, 4, [(0, 1, 0), (2, 3, 0)], ("paired", [(0, 1), (2, 3)], [0, 0, 0], []))

    def test_a_group_that_is_none(self):
        for places in [
                (), (2,), (0, 1), (0, 1, 2, 3), (0, 0, 1), (0, 1, 1), (1, 1, 1), (2, 1, 0), (0, 2, 1), (1, 0, 2),
                (1, 2, 4), (0, 1, 40), (-1, 0, 1), (-4, 1, 2), (0, 1, 2, 3, 4), (-1, 0, 1, 2, 3), (1, 2, BIG),
                (-HUGE, 1, 2), (0, 1, 1, 2, 3), (0, 1, 2, 2, 3), (3, 2, 1, 0, -1)]:
            for groups in [[(places, 0)], [((0, 1, 2), 0), (places, 0)], [(places, 0), ((0, 1, 2), 0)]]:
                self.said(False, 4, ALIKE, ("paired", [(0, 1), (2, 3)], [1, 1, 1, 1], groups))

    def test_even_groups_and_small_ones_show_nothing(self):
        # Both rows on prices hold here: it is the group that is none.
        self.said(False, 2, [(0, 1, 5)], ("paired", [(0, 1)], [5, 3], [((0,), 2)]))
        self.said(False, 2, [(0, 1, 5)], ("paired", [(0, 1)], [4, 4], [((), 2)]))
        self.said(False, 2, [(0, 1, 5)], ("paired", [(0, 1)], [4, 4], [((0, 1), 2)]))
        self.said(False, 4, [(0, 1, 3), (2, 3, 3), (0, 2, 1), (1, 3, 1)],
                  ("paired", [(0, 1), (2, 3)], [1, 1, 1, 1], [((0, 1, 2, 3), 8)]))

    def test_a_price_of_a_group_below_nought(self):
        self.said(False, 4, ALIKE, ("paired", [(0, 1), (2, 3)], [1, 1, 1, 3], [((0, 1, 2), -2)]))
        self.said(False, 4, ALIKE, ("paired", [(0, 1), (2, 3)], [1, 1, 1, 1], [((0, 1, 2), -1), ((0, 1, 2), 1)]))
        self.said(False, 6, THREES, ("paired", ACROSS, [0] * 6, [((0, 1, 2), 15), ((3, 4, 5), -1)]))
        self.said(False, 6, THREES, ("paired", ACROSS, [0] * 6, [((0, 1, 2), HUGE), ((3, 4, 5), 14 - HUGE)]))

    def test_a_pairing_that_is_none_of_the_net_or_not_full(self):
        # All worries are 0, so that the prices never speak against it.
        worries = [(u, v, 0) for u, v in all_links(6) if (u, v) != (0, 5)]
        good = [(0, 1), (2, 3), (4, 5)]
        self.said(True, 6, worries, ("paired", good, [0] * 6, []))
        for pairing in [
                [], [(0, 1)], [(2, 3), (4, 5)], [(0, 1), (4, 5)], [(0, 1), (2, 3)], [(0, 1), (0, 1), (2, 3), (4, 5)],
                [(0, 1), (0, 1), (2, 3)], [(0, 1), (2, 3), (4, 5), (4, 5)], [(0, 1), (2, 3), (3, 5)],
                [(0, 1), (1, 3), (4, 5)], [(0, 1), (0, 2), (1, 2)], [(1, 0), (2, 3), (4, 5)], [(0, 1), (3, 2), (4, 5)],
                [(0, 1), (2, 3), (5, 4)], [(0, 5), (1, 2), (3, 4)], [(0, 1), (2, 3), (4, 6)], [(-1, 0), (1, 2), (3, 4)],
                [(0, 0), (1, 2), (3, 4)], [(0, 1), (2, 3), (4, 5), (6, 7)], [(-6, 1), (2, 3), (4, 5)],
                [(0, 1), (2, 3), (4, BIG)], [(0, 1), (2, 3), (5, 5)]]:
            self.said(False, 6, worries, ("paired", pairing, [0] * 6, []))

    def test_the_links_in_another_order(self):
        worries = [(u, v, 0) for u, v in all_links(6)]
        for pairing in itertools.permutations([(0, 5), (1, 3), (2, 4)]):
            in_order = pairing == ((0, 5), (1, 3), (2, 4))
            self.said(in_order, 6, worries, ("paired", list(pairing), [0] * 6, []))

    def test_numbers_of_very_many_figures(self):
        self.said(True, 2, [(0, 1, BIG)], ("paired", [(0, 1)], [HUGE, 2 * BIG - HUGE], []))
        self.said(False, 2, [(0, 1, BIG)], ("paired", [(0, 1)], [HUGE, 2 * BIG - HUGE + 1], []))
        self.said(False, 2, [(0, 1, BIG)], ("paired", [(0, 1)], [HUGE, HUGE], []))
        self.said(True, 4, [(0, 1, -BIG), (2, 3, BIG)],
                  ("paired", [(0, 1), (2, 3)], [-BIG, -BIG, BIG - HUGE, BIG + HUGE], []))
        self.said(False, 6, THREES, ("paired", ACROSS, [0] * 6, [((0, 1, 2), HUGE)]))


class Told(Shows):

    def spoiled(self, told):
        """What best has told, each time with another thing changed so that it shows nothing any more."""
        word, pairing, prices, groups = told
        for place, price in enumerate(prices):
            for wrong in [price - 1, price + 1]:
                yield (word, pairing, prices[:place] + [wrong] + prices[place + 1:], groups)
        yield (word, pairing, prices + [0], groups)
        yield (word, pairing, prices[:-1], groups)
        for number, link in enumerate(pairing):
            for links in [[], [link, link], [(link[1], link[0])], [(link[0], link[0])]]:
                yield (word, pairing[:number] + links + pairing[number + 1:], prices, groups)
        if len(pairing) > 1:
            yield (word, pairing[::-1], prices, groups)
            yield (word, pairing[1:] + pairing[:1], prices, groups)
        for number, (places, price) in enumerate(groups):
            for wrong in [(places, price - 1), (places, price + 1), (places, -1), (places[1:], price),
                          (places[::-1], price), (places[:1] + places, price), (places[:1] * len(places), price)]:
                yield (word, pairing, prices, groups[:number] + [wrong] + groups[number + 1:])
            yield (word, pairing, prices, groups[:number] + groups[number + 1:])

    def looked_at(self, n, worries):
        told = best(n, worries)
        self.said(True, n, worries, told)
        if told[0] == "paired" and n > 0:
            for wrong in self.spoiled(told):
                self.said(False, n, worries, wrong)

    def test_what_best_tells_shows_what_it_says(self):
        chance = random.Random(141)
        for number in range(150):
            n = chance.randrange(0, 11)
            self.looked_at(n, some_worries(n, chance.choice([0.5, 1]), chance.choice([2, 50, BIG]), chance))
        for number in range(20):
            self.looked_at(10, far_worries(10, chance.choice([3, 4]), chance))
        self.looked_at(8, NESTED)
        self.looked_at(6, THREES)

    def test_of_forty_places(self):
        chance = random.Random(142)
        for number in range(3):
            self.looked_at(40, far_worries(40, 5, chance))
        for n in [39, 40, 41, 45]:
            for share in [0.05, 0.2, 1]:
                worries = some_worries(n, share, BIG, chance)
                self.said(True, n, worries, best(n, worries))

    def test_prices_moved_between_places(self):
        # The sum stays; told is by the rows alone whether the prices still hold.
        chance = random.Random(143)
        said = []
        for number in range(60):
            n = chance.choice([4, 6, 8])
            worries = far_worries(n, 3, chance) if number % 2 else some_worries(n, 0.7, 3, chance)
            told = best(n, worries)
            if told[0] == "paired":
                for rise, fall in itertools.permutations(range(n), 2):
                    prices = moved(told[2], rise, fall)
                    wanted = all(price_on(u, v, prices, told[3]) <= 2 * worry for u, v, worry in worries)
                    said.append(wanted)
                    self.said(wanted, n, worries, ("paired", told[1], prices, told[3]))
        self.assertEqual({True, False}, set(said))


class HinderedForm(Shows):

    def test_few_places(self):
        self.said(False, 0, [], ("hindered", []))
        self.said(True, 1, [], ("hindered", []))
        self.said(False, 1, [], ("hindered", [0]))
        self.said(True, 2, [], ("hindered", []))
        self.said(False, 2, [(0, 1, 3)], ("hindered", []))
        self.said(False, 2, [(0, 1, 3)], ("hindered", [0]))
        self.said(False, 2, [(0, 1, 3)], ("hindered", [0, 1]))
        self.said(True, 3, [(0, 1, 3), (1, 2, 3)], ("hindered", [1]))
        self.said(True, 3, [(0, 1, 3), (1, 2, 3)], ("hindered", []))

    def test_ordinary_ones(self):
        self.said(True, 6, HUBS, ("hindered", [0, 1]))
        self.said(False, 6, HUBS, ("hindered", []))
        self.said(False, 6, HUBS, ("hindered", [0]))
        self.said(False, 6, HUBS, ("hindered", [0, 1, 2]))

    def test_a_list_that_is_none_of_places_rising(self):
        # But for their form these would leave enough odd parts.
        for out in [[1, 0], [0, 1, 1], [0, 0, 1], [0, 1, 0], [0, 1, 6], [0, 1, 40], [-6, 1], [-6, -5], [-6, 0, 1],
                    [0, 1, BIG], [-HUGE, 0, 1]]:
            self.said(False, 6, HUBS, ("hindered", out))
        star = [(0, 1, 5), (0, 2, 5), (0, 3, 5)]
        self.said(True, 4, star, ("hindered", [0]))
        for out in [[0, 0], [-4], [-4, 0], [0, 4]]:
            self.said(False, 4, star, ("hindered", out))

    def test_just_as_many_odd_parts_are_too_few(self):
        self.said(False, 4, [(0, 2, 1), (0, 3, 1), (1, 2, 1), (1, 3, 1)], ("hindered", [0, 1]))
        self.said(False, 6, HUBS, ("hindered", [0, 1, 5]))
        self.said(False, 6, THREES, ("hindered", [2]))

    def test_every_list_on_small_nets(self):
        chance = random.Random(144)
        for number in range(60):
            n = chance.randrange(1, 6)
            worries = some_worries(n, 0.4, 3, chance)
            for size in range(0, 4):
                for out in itertools.product(range(-1, n + 1), repeat=size):
                    rising = list(out) == sorted(set(out)) and set(out) <= set(range(n))
                    wanted = rising and len(odd_parts(n, net_of(worries), list(out))) > size
                    self.said(wanted, n, worries, ("hindered", list(out)))


class OnesOwn(unittest.TestCase):

    def test_a_change_of_what_was_handed_in_changes_nothing_later(self):
        worries = list(THREES)
        pairing = list(ACROSS)
        prices = [0] * 6
        groups = [((0, 1, 2), 14)]
        told = ("paired", pairing, prices, groups)
        for number in range(2):
            self.assertIs(shows(6, worries, told), True)
            self.assertEqual(worth(worries, pairing), 7)
        self.assertEqual((worries, told), (THREES, ("paired", ACROSS, [0] * 6, [((0, 1, 2), 14)])))
        prices[0] = 1
        self.assertIs(shows(6, worries, told), False)
        prices[0] = 0
        self.assertIs(shows(6, worries, told), True)
        worries[6] = (2, 3, 8)
        self.assertIs(shows(6, worries, told), False)
        self.assertEqual(worth(worries, pairing), 8)
        pairing.pop()
        self.assertEqual(worth(worries, pairing), 8)
        pairing.pop()
        self.assertEqual(worth(worries, pairing), 0)


if __name__ == "__main__":
    unittest.main()

"""The best pairing with the prices that show it, or the places that show that none is full (11, 12, 13; 2, 6, 7)."""

import copy
import itertools
import random
import unittest

from rollcall.best import best
from samples import NESTED, Case, all_links, far_worries, least_worth, some_worries

BIG = 10 ** 60 - 1
# Two threes, without worries within, with one link of the worry 7 between.
THREES = [(0, 1, 0), (0, 2, 0), (1, 2, 0), (3, 4, 0), (3, 5, 0), (4, 5, 0), (2, 3, 7)]
# All links are at the places 1 and 4 of six.
HUBS = [(0, 1, 3), (1, 2, 3), (1, 3, 1), (1, 4, 0), (1, 5, -2), (0, 4, 3), (2, 4, 3), (3, 4, 3), (4, 5, 0)]


class Checked(Case):

    def checked(self, n, worries):
        """The worth of the pairing told, None where none is full; all that point 12 asks of it is looked at."""
        kept = list(worries)
        told = best(n, worries)
        self.assertEqual(worries, kept)
        self.assertIs(type(told), tuple)
        return self.best_holds(n, worries, told)

    def counted(self, n, worries):
        """Held against all full pairings."""
        self.assertEqual(self.checked(n, worries), least_worth(n, worries), (n, worries))


class FewPlaces(Checked):

    def test_no_places(self):
        self.assertEqual(best(0, []), ("paired", [], [], []))

    def test_one_place(self):
        self.assertEqual(best(1, []), ("hindered", []))

    def test_two_places(self):
        self.assertEqual(best(2, []), ("hindered", []))
        for worry in [0, 5, -5, BIG, -BIG]:
            self.assertEqual(best(2, [(0, 1, worry)])[:2], ("paired", [(0, 1)]))
            self.assertEqual(self.checked(2, [(0, 1, worry)]), worry)

    def test_an_odd_number_of_places(self):
        for n in [3, 5, 7, 39, 41]:
            worries = [(u, v, u - v) for u, v in all_links(n)]
            with self.subTest(n=n):
                self.assertEqual(best(n, worries)[0], "hindered")
                self.assertIsNone(self.checked(n, worries))

    def test_every_worries_of_nought_and_one_on_four_places(self):
        for worries in itertools.product([None, 0, 1], repeat=6):
            self.counted(4, [(u, v, worry) for (u, v), worry in zip(all_links(4), worries) if worry is not None])

    def test_no_full_pairing_is_better(self):
        chance = random.Random(121)
        for number in range(1000):
            n = chance.randrange(0, 9)
            self.counted(n, some_worries(n, chance.choice([0.4, 0.7, 1]), chance.choice([1, 3, 20, BIG]), chance))

    def test_on_a_map(self):
        chance = random.Random(122)
        for number in range(200):
            n = chance.choice([6, 8, 10])
            self.counted(n, far_worries(n, chance.choice([2, 3, 4]), chance))

    def test_in_any_order(self):
        chance = random.Random(123)
        for n, some in [(8, NESTED), (6, THREES), (6, HUBS)]:
            worries = list(some)
            for number in range(100):
                chance.shuffle(worries)
                self.counted(n, worries)


class Hindered(Checked):

    def test_links_at_two_places_alone(self):
        self.assertEqual(best(6, HUBS), ("hindered", [1, 4]))
        self.assertIsNone(self.checked(6, HUBS))

    def test_no_links(self):
        for n in [3, 4, 40]:
            self.assertEqual(best(n, []), ("hindered", []))

    def test_a_place_without_links(self):
        self.assertIsNone(self.checked(4, [(0, 1, 1), (0, 3, 1), (1, 3, 1)]))

    def test_odd_rings_apart(self):
        self.assertEqual(best(6, THREES[:6]), ("hindered", []))
        self.assertIsNone(self.checked(6, THREES[:6]))

    def test_odd_rings_that_lead_to_one_place(self):
        threes = [(3 * one + u, 3 * one + v, one) for one in range(3) for u, v in [(0, 1), (0, 2), (1, 2)]]
        worries = threes + [(2, 9, 8), (5, 9, -8), (8, 9, 10 ** 30)]
        self.assertEqual(best(10, worries), ("hindered", [9]))
        self.assertIsNone(self.checked(10, worries))

    def test_full_pairings_are_told_from_others(self):
        chance = random.Random(124)
        seen = set()
        for number in range(200):
            n = chance.choice([4, 6, 8])
            worries = some_worries(n, 0.3, 10, chance)
            self.counted(n, worries)
            seen.add(best(n, worries)[0])
        self.assertEqual(seen, {"paired", "hindered"})


class Worries(Checked):

    def test_alike(self):
        for worry in [0, 1, 7, -1, -7, BIG, -BIG]:
            for n in [4, 6, 40]:
                self.assertEqual(self.checked(n, [(u, v, worry) for u, v in all_links(n)]), worry * n // 2)

    def test_of_either_sign(self):
        self.assertEqual(best(4, [(0, 1, -3), (2, 3, -3), (0, 2, -5), (1, 3, 0)])[1], [(0, 1), (2, 3)])
        self.assertEqual(best(4, [(0, 1, -3), (2, 3, -3), (0, 2, -9), (1, 3, 2)])[1], [(0, 2), (1, 3)])
        self.assertEqual(best(4, [(0, 1, 5), (2, 3, -4), (0, 2, 0), (1, 3, 0)])[1], [(0, 2), (1, 3)])

    def test_of_sixty_figures(self):
        far = [(0, 1, BIG), (0, 2, BIG - 1), (1, 3, BIG), (2, 3, BIG), (0, 3, BIG), (1, 2, BIG)]
        self.assertEqual(best(4, far)[1], [(0, 2), (1, 3)])
        self.assertEqual(self.checked(4, far), 2 * BIG - 1)
        self.assertEqual(self.checked(4, [(u, v, -worry) for u, v, worry in far]), -2 * BIG)
        self.assertEqual(self.checked(4, [(0, 1, BIG), (1, 2, -BIG), (2, 3, BIG)]), 2 * BIG)
        self.assertEqual(self.checked(4, [(0, 1, BIG), (2, 3, -BIG), (0, 2, 1), (1, 3, 0)]), 0)

    def test_a_dear_link_that_must_be(self):
        self.assertEqual(self.checked(4, [(0, 1, 1), (1, 2, 0), (2, 3, 1)]), 2)
        self.assertEqual(best(6, THREES)[1], [(0, 1), (2, 3), (4, 5)])
        self.assertEqual(self.checked(6, THREES), 7)

    def test_one_who_is_far_from_all(self):
        # Nobody may be spared who is dear to all: the least worry of each is no sign of the pairing.
        worries = [(u, v, (v - u) ** 2 if v < 5 else 1000 * (6 - u)) for u, v in all_links(6)]
        self.counted(6, worries)

    def test_that_take_groups(self):
        self.assertNotEqual(best(6, THREES)[3], [])
        self.counted(6, THREES)

    def test_odd_rings_within_odd_rings(self):
        self.counted(8, NESTED)
        sets = [set(places) for places, price in best(8, NESTED)[3]]
        self.assertTrue(any(one < other for one in sets for other in sets))
        deep = [(0, 1, 0), (0, 2, 0), (1, 2, 0)]
        for place in range(3, 13, 2):
            worry = 10 ** place
            deep += [(place - 1, place, worry), (place, place + 1, worry), (place - 3, place + 1, worry)]
        deep += [(place, 13, 10 ** 20 + place) for place in range(13)]
        for shift in [0, -10 ** 15]:
            self.counted(14, [(u, v, worry + shift) for u, v, worry in deep])

    def test_worries_of_points_and_wishes(self):
        # Such as guests have: squares of differences ahead of all else, then wishes, then places.
        chance = random.Random(125)
        for number in range(30):
            n = chance.choice([8, 10]) if number else 40
            points = sorted([chance.randrange(6) for place in range(n)], reverse=True)
            worries = [(u, v, (points[u] - points[v]) ** 2 * 10 ** 12 + chance.choice([0, 10 ** 6]) + v - u - 1)
                       for u, v in all_links(n) if chance.random() < 0.7]
            if n < 40:
                self.counted(n, worries)
            else:
                self.checked(n, worries)


class FortyPlaces(Checked):

    def test_all_linked(self):
        chance = random.Random(126)
        for n in [38, 40, 42, 50]:
            for most in [1, 1000, BIG]:
                self.assertIsNotNone(self.checked(n, some_worries(n, 1, most, chance)))

    def test_few_links(self):
        chance = random.Random(127)
        for n in [39, 40, 41, 50]:
            for share in [0.03, 0.07, 0.1, 0.2]:
                self.checked(n, some_worries(n, share, 10, chance))

    def test_a_chain(self):
        chain = [(place, place + 1, place % 2) for place in range(39)]
        self.assertEqual(best(40, chain)[1], [(place, place + 1) for place in range(0, 40, 2)])
        self.assertEqual(self.checked(40, chain), 0)
        self.assertEqual(self.checked(40, [(u, v, 1 - worry) for u, v, worry in chain]), 20)

    def test_on_a_map(self):
        chance = random.Random(128)
        for number in range(60):
            self.checked(40, far_worries(40, chance.choice([3, 4, 5, 8, 39]), chance))

    def test_the_best_is_hidden_among_dear_ones(self):
        chance = random.Random(129)
        places = list(range(40))
        chance.shuffle(places)
        hidden = sorted(tuple(sorted(places[number:number + 2])) for number in range(0, 40, 2))
        worries = [(u, v, -1 if (u, v) in hidden else chance.randrange(5)) for u, v in all_links(40)]
        self.assertEqual(best(40, worries)[1], hidden)
        self.assertEqual(self.checked(40, worries), -20)


class OnesOwn(unittest.TestCase):

    NETS = [(0, []), (1, []), (4, [(u, v, u + v) for u, v in all_links(4)]), (6, THREES), (6, HUBS), (8, NESTED)]

    def test_what_is_handed_in_stays(self):
        for n, some in self.NETS:
            worries = some[::-1]
            best(n, worries)
            self.assertEqual(worries, some[::-1])

    def test_a_change_of_what_was_told_changes_nothing_later(self):
        for n, worries in self.NETS:
            told = best(n, worries)
            kept = copy.deepcopy(told)
            other = best(n, worries)
            for thing in told[1:]:
                thing.insert(0, 99)
                thing.append((0, 1))
            self.assertEqual(other, kept)
            self.assertEqual(best(n, worries), kept)

    def test_a_change_of_what_was_handed_in_changes_nothing_later(self):
        for n, some in self.NETS:
            worries = list(some)
            told = best(n, worries)
            kept = copy.deepcopy(told)
            worries.clear()
            self.assertEqual(told, kept)
            self.assertEqual(best(n, list(some)), kept)
            self.assertEqual(best(n, worries), ("paired", [], [], []) if n == 0 else ("hindered", []))


if __name__ == "__main__":
    unittest.main()

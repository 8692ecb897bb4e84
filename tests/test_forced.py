"""The best of the full pairings that have a link, and of those that have it not (15); what is told is one's own (2)."""

import itertools
import random
import unittest

from rollcall.best import best
from rollcall.forced import barred, forced
from samples import NESTED, all_links, far_worries, least_worth, net_of, places_of, some_worries, worth_of

BIG = 10 ** 60 - 1
# The full pairings are (0, 1), (2, 3), of the worth 2; (0, 2), (1, 3), of 20; (0, 3), (1, 2), of 200.
SQUARE = [(0, 1, 1), (0, 2, 10), (0, 3, 100), (1, 2, 100), (1, 3, 10), (2, 3, 1)]
CHAIN = [(0, 1, 5), (1, 2, -50), (2, 3, 5)]


class Checked(unittest.TestCase):

    def full(self, n, worries, pairing):
        self.assertIs(type(pairing), list)
        self.assertLessEqual(set(pairing), set(net_of(worries)))
        self.assertEqual(sorted(places_of(pairing)), list(range(n)))
        self.assertEqual(pairing, sorted(pairing))

    def worths(self, n, worries, link):
        """The worths of the two pairings told for a link, None where none is told."""
        told = []
        for ask in [forced, barred]:
            kept = list(worries)
            pairing = ask(n, worries, link)
            self.assertEqual(worries, kept)
            if pairing is not None:
                self.full(n, worries, pairing)
                self.assertEqual(link in pairing, ask == forced)
            told.append(None if pairing is None else worth_of(worries, pairing))
        return told

    def counted(self, n, worries):
        """Each link of the net, held against all full pairings."""
        for link in net_of(worries):
            having = least_worth(n, worries, lambda pairing: link in pairing)
            lacking = least_worth(n, worries, lambda pairing: link not in pairing)
            self.assertEqual(self.worths(n, worries, link), [having, lacking], (n, worries, link))


class FewPlaces(Checked):

    def test_two_places(self):
        for worry in [0, 4, -4, BIG, -BIG]:
            self.assertEqual(forced(2, [(0, 1, worry)], (0, 1)), [(0, 1)])
            self.assertIsNone(barred(2, [(0, 1, worry)], (0, 1)))

    def test_four_places(self):
        self.assertEqual(forced(4, SQUARE, (0, 1)), [(0, 1), (2, 3)])
        self.assertEqual(forced(4, SQUARE, (1, 3)), [(0, 2), (1, 3)])
        self.assertEqual(forced(4, SQUARE, (0, 3)), [(0, 3), (1, 2)])
        self.assertEqual(barred(4, SQUARE, (0, 1)), [(0, 2), (1, 3)])
        self.assertEqual(barred(4, SQUARE, (2, 3)), [(0, 2), (1, 3)])
        self.assertEqual(barred(4, SQUARE, (0, 2)), [(0, 1), (2, 3)])
        self.assertEqual(barred(4, SQUARE, (1, 2)), [(0, 1), (2, 3)])

    def test_none_where_there_is_none(self):
        self.assertIsNone(forced(4, CHAIN, (1, 2)))
        self.assertEqual(barred(4, CHAIN, (1, 2)), [(0, 1), (2, 3)])
        self.assertEqual(forced(4, CHAIN, (0, 1)), [(0, 1), (2, 3)])
        self.assertIsNone(barred(4, CHAIN, (0, 1)))
        self.assertIsNone(barred(4, CHAIN, (2, 3)))

    def test_none_where_no_pairing_is_full(self):
        star = [(0, 1, 1), (0, 2, 2), (0, 3, 3)]
        three = [(0, 1, 1), (0, 2, 2), (1, 2, 3)]
        for n, worries in [(4, star), (3, three), (4, three), (3, [(0, 1, 0)]), (6, CHAIN)]:
            for link in net_of(worries):
                self.assertIsNone(forced(n, worries, link))
                self.assertIsNone(barred(n, worries, link))

    def test_every_worries_of_nought_and_one_on_four_places(self):
        for worries in itertools.product([None, 0, 1], repeat=6):
            self.counted(4, [(u, v, worry) for (u, v), worry in zip(all_links(4), worries) if worry is not None])

    def test_held_against_all_full_pairings(self):
        chance = random.Random(151)
        for number in range(120):
            n = chance.randrange(2, 9)
            self.counted(n, some_worries(n, chance.choice([0.4, 0.7, 1]), chance.choice([1, 20, BIG]), chance))

    def test_on_a_map(self):
        chance = random.Random(152)
        for number in range(20):
            self.counted(8, far_worries(8, chance.choice([2, 3, 4]), chance))
        self.counted(8, NESTED)

    def test_worries_in_any_order(self):
        for worries in itertools.permutations(SQUARE):
            self.assertEqual(forced(4, list(worries), (0, 3)), [(0, 3), (1, 2)])
            self.assertEqual(barred(4, list(worries), (0, 1)), [(0, 2), (1, 3)])

    def test_of_sixty_figures(self):
        worries = [(0, 1, -BIG), (2, 3, -BIG), (0, 2, BIG), (1, 3, BIG - 1), (0, 3, BIG), (1, 2, BIG)]
        self.assertEqual(forced(4, worries, (0, 2)), [(0, 2), (1, 3)])
        self.assertEqual(barred(4, worries, (2, 3)), [(0, 2), (1, 3)])
        self.counted(4, worries)


class FortyPlaces(Checked):

    def test_the_one_or_the_other_is_the_best(self):
        chance = random.Random(153)
        for n in [40, 44]:
            for worries in [far_worries(n, 6, chance), some_worries(n, 0.3, BIG, chance)]:
                told = best(n, worries)
                self.assertEqual(told[0], "paired")
                least = worth_of(worries, told[1])
                for link in chance.sample(net_of(worries), 6) + told[1][:3]:
                    worths = self.worths(n, worries, link)
                    self.assertEqual(min(worth for worth in worths if worth is not None), least)
                    if link in told[1]:
                        self.assertEqual(worths[0], least)
                    else:
                        self.assertEqual(worths[1], least)

    def test_a_chain(self):
        chain = [(place, place + 1, place) for place in range(39)]
        neighbours = [(place, place + 1) for place in range(0, 40, 2)]
        for link in net_of(chain):
            wanted = [neighbours, None] if link in neighbours else [None, neighbours]
            self.assertEqual([forced(40, chain, link), barred(40, chain, link)], wanted)

    def test_a_ring(self):
        ring = [(0, 39, 1)] + [(place, place + 1, place % 2) for place in range(39)]
        even = [(place, place + 1) for place in range(0, 40, 2)]
        odd = [(0, 39)] + [(place, place + 1) for place in range(1, 39, 2)]
        for link in net_of(ring):
            wanted = [even, odd] if link in even else [odd, even]
            self.assertEqual([forced(40, ring, link), barred(40, ring, link)], wanted)


class OnesOwn(unittest.TestCase):

    def test_what_is_handed_in_stays(self):
        for ask in [forced, barred]:
            for link in net_of(SQUARE):
                worries = SQUARE[::-1]
                ask(4, worries, link)
                self.assertEqual(worries, SQUARE[::-1])

    def test_a_change_of_what_was_told_changes_nothing_later(self):
        for ask in [forced, barred]:
            for link in net_of(SQUARE):
                told = ask(4, SQUARE, link)
                kept = list(told)
                told.insert(0, (8, 9))
                self.assertEqual(ask(4, SQUARE, link), kept)

    def test_a_change_of_what_was_handed_in_changes_nothing_later(self):
        for ask in [forced, barred]:
            for link in net_of(SQUARE):
                worries = list(SQUARE)
                told = ask(4, worries, link)
                kept = list(told)
                worries.clear()
                self.assertEqual(told, kept)
                self.assertEqual(ask(4, list(SQUARE), link), kept)


if __name__ == "__main__":
    unittest.main()

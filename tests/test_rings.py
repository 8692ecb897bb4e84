"""Rings of two full pairings, and pairings turned on them (8); what is told is the asker's own (2)."""

import itertools
import random
import unittest

from rollcall.nets import is_full
from rollcall.rings import rings, turned
from samples import all_links, full_pairings


def all_twos(most):
    """All two full pairings of the same places, of up to so many places."""
    for n in range(0, most + 1, 2):
        pairings = full_pairings(list(range(n)), all_links(n))
        for one in pairings:
            for other in pairings:
                yield n, one, other


def some_pairing(n, chance):
    places = list(range(n))
    chance.shuffle(places)
    return sorted(tuple(sorted(places[number:number + 2])) for number in range(0, n, 2))


def mate(pairing, place):
    return [u + v - place for u, v in pairing if place in (u, v)][0]


def shuffled(places, chance):
    places = list(places)
    chance.shuffle(places)
    return places


# Forty places: neighbours, and with them one ring through all places.
NEAR = [(place, place + 1) for place in range(0, 40, 2)]
ROUND = [(0, 39)] + [(place, place + 1) for place in range(1, 39, 2)]
# Rings of two, four, two, six and six places.
ONE = [(0, 19), (1, 4), (2, 17), (3, 5), (6, 8), (7, 9), (10, 14), (11, 13), (12, 15), (16, 18)]
OTHER = [(0, 19), (1, 5), (2, 17), (3, 4), (6, 7), (8, 11), (9, 13), (10, 18), (12, 14), (15, 16)]
TOLD = [[0, 19], [1, 4, 3, 5], [2, 17], [6, 8, 11, 13, 9, 7], [10, 14, 12, 15, 16, 18]]


class Rings(unittest.TestCase):

    def checked(self, n, one, other):
        told = rings(one, other)
        self.assertIs(type(told), list)
        seen = []
        for ring in told:
            self.assertIs(type(ring), list)
            self.assertEqual(len(ring) % 2, 0)
            self.assertEqual(ring[0], min(place for place in range(n) if place not in seen))
            for number, place in enumerate(ring):
                by = one if number % 2 == 0 else other
                self.assertEqual(ring[(number + 1) % len(ring)], mate(by, place))
            seen.extend(ring)
        self.assertEqual(sorted(seen), list(range(n)))
        return told

    def test_no_places(self):
        self.assertEqual(rings([], []), [])

    def test_two_places(self):
        self.assertEqual(rings([(0, 1)], [(0, 1)]), [[0, 1]])

    def test_both_the_same(self):
        self.assertEqual(rings([(0, 3), (1, 2)], [(0, 3), (1, 2)]), [[0, 3], [1, 2]])
        self.assertEqual(rings([(0, 1), (2, 5), (3, 4)], [(0, 1), (2, 5), (3, 4)]), [[0, 1], [2, 5], [3, 4]])
        self.assertEqual(rings(NEAR, list(NEAR)), [[place, place + 1] for place in range(0, 40, 2)])
        self.assertEqual(rings(NEAR, NEAR), [[place, place + 1] for place in range(0, 40, 2)])

    def test_one_ring_through_all_places(self):
        self.assertEqual(rings([(0, 1), (2, 3)], [(0, 2), (1, 3)]), [[0, 1, 3, 2]])
        self.assertEqual(rings([(0, 1), (2, 3), (4, 5)], [(0, 5), (1, 2), (3, 4)]), [[0, 1, 2, 3, 4, 5]])
        self.assertEqual(rings([(0, 5), (1, 2), (3, 4)], [(0, 1), (2, 3), (4, 5)]), [[0, 5, 4, 3, 2, 1]])
        self.assertEqual(rings([(0, 4), (1, 3), (2, 5)], [(0, 1), (2, 4), (3, 5)]), [[0, 4, 2, 5, 3, 1]])

    def test_several_rings_of_unlike_lengths(self):
        self.assertEqual(self.checked(20, ONE, OTHER), TOLD)
        one = [(0, 5), (1, 2), (3, 4), (6, 7)]
        other = [(0, 5), (1, 3), (2, 7), (4, 6)]
        self.assertEqual(rings(one, other), [[0, 5], [1, 2, 7, 6, 4, 3]])

    def test_rings_that_lie_within_one_another(self):
        one = [(0, 7), (1, 6), (2, 5), (3, 4)]
        other = [(0, 1), (2, 3), (4, 5), (6, 7)]
        self.assertEqual(rings(one, other), [[0, 7, 6, 1], [2, 5, 4, 3]])
        self.assertEqual(rings(other, one), [[0, 1, 6, 7], [2, 3, 4, 5]])

    def test_the_other_way_round(self):
        self.assertEqual(rings(OTHER, ONE), [
            [0, 19], [1, 5, 3, 4], [2, 17], [6, 7, 9, 13, 11, 8], [10, 18, 16, 15, 12, 14]])
        for n, one, other in all_twos(6):
            # The same rings, each from its begin in the other direction.
            back = [ring[:1] + ring[:0:-1] for ring in rings(one, other)]
            self.assertEqual(rings(other, one), back, (one, other))

    def test_every_two_pairings_of_up_to_eight_places(self):
        for n, one, other in all_twos(8):
            self.checked(n, one, other)

    def test_forty_places(self):
        self.assertEqual(rings(NEAR, ROUND), [list(range(40))])
        self.assertEqual(rings(ROUND, NEAR), [[0] + list(range(39, 0, -1))])
        across = [(place, place + 20) for place in range(20)]
        self.assertEqual(rings(NEAR, across), [
            [place, place + 1, place + 21, place + 20] for place in range(0, 20, 2)])
        chance = random.Random(8)
        for number in range(50):
            self.checked(40, some_pairing(40, chance), some_pairing(40, chance))

    def test_somewhat_more_than_forty(self):
        chance = random.Random(9)
        for n in [42, 50, 60]:
            self.checked(n, some_pairing(n, chance), some_pairing(n, chance))

    def test_nothing_handed_in_is_changed(self):
        one = list(ONE)
        other = list(OTHER)
        rings(one, other)
        self.assertEqual((one, other), (ONE, OTHER))

    def test_what_is_told_is_the_askers_own(self):
        one = list(ONE)
        other = list(OTHER)
        first = rings(one, other)
        first[0].append(99)
        first[1].clear()
        first.pop()
        self.assertEqual((one, other), (ONE, OTHER))
        second = rings(one, other)
        self.assertEqual(second, TOLD)
        self.assertEqual(first, [[0, 19, 99], [], [2, 17], [6, 8, 11, 13, 9, 7]])

    def test_a_change_of_what_was_handed_in_changes_nothing_told(self):
        one = list(ONE)
        other = list(OTHER)
        first = rings(one, other)
        one.clear()
        other.pop()
        self.assertEqual(first, TOLD)
        self.assertEqual(rings(one, []), [])
        self.assertEqual(rings(ONE, OTHER), TOLD)


class Turned(unittest.TestCase):

    def checked(self, n, one, other, places):
        kept = (list(one), list(other), list(places))
        told = turned(one, other, places)
        self.assertEqual((one, other, places), kept)
        self.assertIs(type(told), list)
        self.assertEqual(told, sorted(told))
        self.assertTrue(is_full(n, one + other, told), told)
        for place in range(n):
            self.assertEqual(mate(told, place), mate(other if place in places else one, place))
        self.assertEqual(turned(told, one, places), one)
        return told

    def test_no_places_at_all(self):
        self.assertEqual(turned([], [], []), [])

    def test_on_no_places_it_is_the_first_one(self):
        self.assertEqual(turned([(0, 1), (2, 3)], [(0, 2), (1, 3)], []), [(0, 1), (2, 3)])
        self.assertEqual(turned(ONE, OTHER, []), ONE)
        self.assertEqual(turned(NEAR, ROUND, []), NEAR)

    def test_on_all_places_it_is_the_second_one(self):
        self.assertEqual(turned([(0, 1), (2, 3)], [(0, 2), (1, 3)], [0, 1, 2, 3]), [(0, 2), (1, 3)])
        self.assertEqual(turned(ONE, OTHER, list(range(20))), OTHER)
        self.assertEqual(turned(ONE, OTHER, list(range(19, -1, -1))), OTHER)
        self.assertEqual(turned(NEAR, ROUND, list(range(40))), ROUND)

    def test_on_one_ring(self):
        self.assertEqual(turned(ONE, OTHER, [0, 19]), ONE)
        self.assertEqual(turned(ONE, OTHER, [1, 4, 3, 5]), [
            (0, 19), (1, 5), (2, 17), (3, 4), (6, 8), (7, 9), (10, 14), (11, 13), (12, 15), (16, 18)])
        self.assertEqual(turned(ONE, OTHER, TOLD[3]), [
            (0, 19), (1, 4), (2, 17), (3, 5), (6, 7), (8, 11), (9, 13), (10, 14), (12, 15), (16, 18)])

    def test_on_several_rings(self):
        self.assertEqual(turned(ONE, OTHER, [1, 4, 3, 5, 10, 14, 12, 15, 16, 18]), [
            (0, 19), (1, 5), (2, 17), (3, 4), (6, 8), (7, 9), (10, 18), (11, 13), (12, 14), (15, 16)])
        self.assertEqual(turned(ONE, OTHER, TOLD[4] + TOLD[3]), [
            (0, 19), (1, 4), (2, 17), (3, 5), (6, 7), (8, 11), (9, 13), (10, 18), (12, 14), (15, 16)])

    def test_places_in_any_order(self):
        one = [(0, 7), (1, 6), (2, 5), (3, 4)]
        other = [(0, 1), (2, 3), (4, 5), (6, 7)]
        for places in itertools.permutations([0, 7, 6, 1]):
            self.assertEqual(turned(one, other, list(places)), [(0, 1), (2, 5), (3, 4), (6, 7)])
        for places in itertools.permutations([2, 3, 4, 5]):
            self.assertEqual(turned(one, other, list(places)), [(0, 7), (1, 6), (2, 3), (4, 5)])

    def test_told_in_order_of_the_first_places(self):
        one = [(0, 5), (1, 4), (2, 3)]
        other = [(0, 5), (1, 2), (3, 4)]
        self.assertEqual(turned(one, other, [1, 4, 3, 2]), [(0, 5), (1, 2), (3, 4)])
        one = [(0, 1), (2, 7), (3, 6), (4, 5)]
        other = [(0, 1), (2, 3), (4, 5), (6, 7)]
        self.assertEqual(turned(one, other, [7, 6, 3, 2]), [(0, 1), (2, 3), (4, 5), (6, 7)])

    def test_every_two_pairings_of_up_to_six_places_on_every_rings(self):
        chance = random.Random(6)
        for n, one, other in all_twos(6):
            told = rings(one, other)
            for size in range(len(told) + 1):
                for some in itertools.combinations(told, size):
                    places = [place for ring in some for place in ring]
                    self.checked(n, one, other, places)
                    self.checked(n, one, other, shuffled(places, chance))

    def test_forty_places_and_somewhat_more(self):
        chance = random.Random(40)
        for n in [40] * 30 + [42, 50]:
            one = some_pairing(n, chance)
            other = some_pairing(n, chance)
            told = rings(one, other)
            self.assertEqual(self.checked(n, one, other, shuffled(range(n), chance)), other)
            for ring in told:
                self.checked(n, one, other, shuffled(ring, chance))
            some = chance.sample(told, len(told) // 2)
            self.checked(n, one, other, shuffled([place for ring in some for place in ring], chance))

    def test_what_is_told_is_the_askers_own(self):
        for places, wanted in [([], ONE), (list(range(20)), OTHER)]:
            one = list(ONE)
            other = list(OTHER)
            first = turned(one, other, places)
            first.clear()
            first.append((8, 9))
            self.assertEqual((one, other), (ONE, OTHER))
            self.assertEqual(turned(one, other, places), wanted)
            self.assertEqual(first, [(8, 9)])

    def test_a_change_of_what_was_handed_in_changes_nothing_told(self):
        one = [(0, 1), (2, 3)]
        other = [(0, 3), (1, 2)]
        places = [0, 1, 2, 3]
        first = turned(one, other, places)
        places.clear()
        other.pop()
        one.append((4, 5))
        self.assertEqual(first, [(0, 3), (1, 2)])
        self.assertEqual(turned(one, other, places), [(0, 1), (2, 3), (4, 5)])
        self.assertEqual(turned([(0, 1), (2, 3)], [(0, 3), (1, 2)], [0, 1, 2, 3]), [(0, 3), (1, 2)])


if __name__ == "__main__":
    unittest.main()

"""Trees that grow in a web: what they end with is what the points 9, 10, 12 and 13 ask for."""

import itertools
import random
import unittest

from rollcall.growing import begin_trees, even_places, go_on, grown, odd_places
from rollcall.nets import is_full, is_pairing, odd_parts
from rollcall.web import EVEN, ODD, Web
from samples import (
    all_links, all_nets, far_worries, least_worth, net_of, pairings_of, places_of, price_on, some_worries, worth_of)


class Ended(unittest.TestCase):

    def paired(self, n, worries, web):
        """What point 12 asks of a pairing, its prices and its groups; the pairing's worth."""
        pairing = web.pairing()
        prices = web.prices()
        groups = web.groups()
        worth = worth_of(worries, pairing)
        self.assertTrue(is_full(n, net_of(worries), pairing))
        self.assertEqual(pairing, sorted(pairing))
        self.assertEqual(len(prices), n)
        for places, price in groups:
            self.assertTrue(len(places) >= 3 and len(places) % 2 == 1 and price > 0)
            self.assertEqual(list(places), sorted(set(places)))
        for u, v, worry in worries:
            self.assertLessEqual(price_on(u, v, prices, groups), 2 * worry)
        self.assertEqual(sum(prices) + sum(price for places, price in groups), 2 * worth)
        self.assertEqual((odd_places(web), even_places(web)), ([], []))
        return worth

    def hindered(self, n, worries, web):
        """What point 9 asks of a pairing that is not full, and of the places that show it to be a largest one."""
        out = odd_places(web)
        alone = n - 2 * len(web.pairing())
        self.assertTrue(is_pairing(n, net_of(worries), web.pairing()))
        self.assertEqual(out, sorted(set(out)))
        self.assertEqual(len(odd_parts(n, net_of(worries), out)) - len(out), alone)
        self.assertGreater(alone, 0)

    def checked(self, n, worries):
        """The worth of a best pairing, None where there is no full one; all that shows it is checked."""
        kept = list(worries)
        web = grown(n, worries)
        self.assertEqual(worries, kept)
        if None not in web.mates:
            return self.paired(n, worries, web)
        self.hindered(n, worries, web)
        return None


class Largest(Ended):

    def largest(self, n, links):
        web = grown(n, [(u, v, 0) for u, v in links])
        pairings = pairings_of(links)
        most = max(len(some) for some in pairings)
        alone = set()
        for some in pairings:
            if len(some) == most:
                alone |= set(range(n)) - set(places_of(some))
        self.assertEqual(len(web.pairing()), most, links)
        self.assertEqual(even_places(web), sorted(alone), links)
        self.checked(n, [(u, v, 0) for u, v in links])

    def test_every_net_of_up_to_five_places(self):
        for n in range(0, 6):
            for links in all_nets(n):
                self.largest(n, links)

    def test_rings_and_bridges(self):
        triangles = [(0, 1), (0, 2), (1, 2), (2, 3), (3, 4), (4, 5), (4, 6), (5, 6)]
        self.largest(7, triangles)
        self.largest(8, triangles + [(6, 7)])
        self.largest(7, [(0, 1), (1, 2), (2, 3), (3, 4), (0, 4), (1, 5), (3, 6)])
        self.largest(7, [(0, 6), (1, 6), (2, 6), (3, 6), (4, 6), (5, 6)])
        self.largest(10, [(0, 1), (1, 2), (0, 2), (3, 4), (4, 5), (3, 5), (6, 7), (7, 8), (6, 8), (2, 9), (5, 9),
                          (8, 9)])

    def test_nets_of_six_to_eight_places(self):
        chance = random.Random(9)
        for number in range(300):
            n = chance.randrange(6, 9)
            self.largest(n, net_of(some_worries(n, chance.choice([0.2, 0.3, 0.4]), 0, chance)))

    def test_forty_places(self):
        chain = [(place, place + 1, 0) for place in range(39)]
        self.assertEqual(self.checked(40, chain), 0)
        self.assertEqual(self.checked(40, chain[1::2] + chain[::2]), 0)
        star = [(0, place, 0) for place in range(1, 40)]
        self.assertIsNone(self.checked(40, star))
        self.assertEqual(odd_places(grown(40, star)), [0])
        self.assertEqual(even_places(grown(40, star)), list(range(1, 40)))
        self.assertEqual(grown(40, []).pairing(), [])
        self.assertEqual(even_places(grown(40, [])), list(range(40)))


class Best(Ended):

    def test_few_places(self):
        self.assertEqual(self.checked(0, []), 0)
        self.assertIsNone(self.checked(1, []))
        self.assertIsNone(self.checked(2, []))
        self.assertEqual(self.checked(2, [(0, 1, 5)]), 5)
        self.assertEqual(self.checked(2, [(0, 1, -5)]), -5)
        self.assertIsNone(self.checked(3, [(0, 1, 1), (0, 2, 1), (1, 2, 1)]))

    def test_a_dear_link_that_must_be(self):
        self.assertEqual(self.checked(4, [(0, 1, 1), (1, 2, 0), (2, 3, 1)]), 2)
        self.assertEqual(self.checked(4, [(0, 1, 10 ** 59), (1, 2, -10 ** 59), (2, 3, 10 ** 59)]), 2 * 10 ** 59)

    def test_a_group_is_needed(self):
        cheap = [(0, 1, 0), (0, 2, 0), (1, 2, 0), (3, 4, 0), (3, 5, 0), (4, 5, 0)]
        self.assertEqual(self.checked(6, cheap + [(2, 3, 7)]), 7)
        self.assertNotEqual(grown(6, cheap + [(2, 3, 7)]).groups(), [])

    def test_every_worries_of_nought_and_one_on_four_places(self):
        for worries in itertools.product([None, 0, 1], repeat=6):
            some = [(u, v, worry) for (u, v), worry in zip(all_links(4), worries) if worry is not None]
            self.assertEqual(self.checked(4, some), least_worth(4, some))

    def test_no_full_pairing_is_better(self):
        chance = random.Random(12)
        for number in range(1500):
            n = chance.randrange(2, 9)
            worries = some_worries(n, chance.choice([0.4, 0.7, 1]), chance.choice([1, 3, 20, 10 ** 59]), chance)
            worth = least_worth(n, worries)
            self.assertEqual(self.checked(n, worries), worth, worries)

    def test_on_a_map(self):
        chance = random.Random(13)
        for number in range(150):
            n = chance.choice([8, 10])
            worries = far_worries(n, chance.choice([2, 3, 4]), chance)
            worth = least_worth(n, worries)
            self.assertEqual(self.checked(n, worries), worth, worries)

    def test_forty_places_and_somewhat_more(self):
        chance = random.Random(40)
        for n in [39, 40, 41, 50]:
            self.assertEqual(self.checked(n, some_worries(n, 1, 1000, chance)) is None, n % 2 == 1)
            self.checked(n, some_worries(n, 0.07, 3, chance))
            self.checked(n, some_worries(n, 0.2, 10 ** 59, chance))
        for number in range(40):
            self.checked(40, far_worries(40, chance.choice([3, 5, 39]), chance))

    def test_the_order_of_the_worries_changes_no_worth(self):
        chance = random.Random(14)
        worries = far_worries(20, 6, chance)
        worth = self.checked(20, worries)
        for number in range(20):
            chance.shuffle(worries)
            self.assertEqual(self.checked(20, worries), worth)

    def test_the_same_each_time(self):
        worries = far_worries(20, 6, random.Random(15))
        one = grown(20, worries)
        other = grown(20, worries)
        self.assertEqual((one.pairing(), one.prices(), one.groups()), (other.pairing(), other.prices(), other.groups()))
        one.pairing().clear()
        worries.clear()
        self.assertEqual(one.pairing(), other.pairing())


class StepByStep(unittest.TestCase):

    def slacks_hold(self, web):
        prices = web.prices()
        groups = web.groups()
        for u, v, twice in web.links:
            slack = twice - price_on(u, v, prices, groups)
            self.assertGreaterEqual(slack, 0)
            one = web.outer[u]
            other = web.outer[v]
            if one != other and one.mark == EVEN and other.mark == EVEN:
                self.assertEqual(slack % 2, 0)
            if web.mates[u] == v:
                self.assertEqual(slack, 0)
        for places, price in groups:
            self.assertGreaterEqual(price, 0)

    def trees_hold(self, web):
        for place, mate in enumerate(web.mates):
            self.assertTrue(mate is None or web.mates[mate] == place)
        for body in web.outermost():
            outward = [place for place in body.places if web.mates[place] not in body.places]
            self.assertEqual(outward, [body.tip])
            alone = web.mates[body.tip] is None
            if body.mark == ODD:
                self.assertIn(body.came[1], body.places)
                self.assertEqual(web.outer[body.came[0]].mark, EVEN)
                self.assertEqual(web.outer[web.mates[body.tip]].mark, EVEN)
            elif body.mark == EVEN and not alone:
                self.assertEqual(web.outer[web.mates[body.tip]].mark, ODD)
            else:
                self.assertEqual(body.mark == EVEN, alone)

    def test_each_step_keeps_what_point_13_tells(self):
        chance = random.Random(16)
        for number in range(60):
            n = chance.choice([8, 12, 16])
            worries = far_worries(n, chance.choice([3, 4]), chance)
            if number % 2:
                worries = some_worries(n, 0.6, chance.choice([1, 5, 100]), chance)
            web = Web(n, worries)
            begin_trees(web)
            self.trees_hold(web)
            while go_on(web):
                self.slacks_hold(web)
                self.trees_hold(web)


if __name__ == "__main__":
    unittest.main()

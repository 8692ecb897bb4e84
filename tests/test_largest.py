"""The largest pairing with what shows it (9), the places that can be left alone (10); what is told is one's own (2)."""

import itertools
import random
import unittest

from rollcall.largest import largest, left_alone
from rollcall.nets import odd_parts
from samples import all_links, all_nets, far_worries, net_of, pairings_of, places_of, some_worries

# Threes, each with all its links: two joined by a bridge, and three that all lead to the place 9.
TWO_THREES = [(0, 1), (0, 2), (1, 2), (2, 3), (3, 4), (3, 5), (4, 5)]
THREE_THREES = [(0, 1), (0, 2), (1, 2), (3, 4), (3, 5), (4, 5), (6, 7), (6, 8), (7, 8), (2, 9), (5, 9), (8, 9)]
# All links are at the places 3 and 5 of eight.
TWO_HUBS = [(0, 3), (1, 3), (2, 3), (3, 4), (3, 6), (3, 7), (0, 5), (1, 5), (2, 5), (4, 5), (5, 6), (5, 7)]


def ring_net(n):
    return sorted([(place, place + 1) for place in range(n - 1)] + [(0, n - 1)])


class Checked(unittest.TestCase):

    def checked(self, n, links):
        """How many links a largest pairing has; what is told shows it."""
        told = largest(n, links)
        self.assertIs(type(told), tuple)
        pairing, out = told
        self.assertEqual([type(pairing), type(out)], [list, list])
        for link in pairing:
            self.assertIs(type(link), tuple)
            self.assertIn(link, links)
        self.assertEqual(len(set(places_of(pairing))), 2 * len(pairing))
        self.assertEqual(pairing, sorted(pairing))
        self.assertEqual(out, sorted(set(out)))
        self.assertLessEqual(set(out), set(range(n)))
        self.assertEqual(len(odd_parts(n, links, out)) - len(out), n - 2 * len(pairing), (n, links, told))
        return len(pairing)

    def counted(self, n, links):
        """Both answers held against all pairings of the net."""
        pairings = pairings_of(links)
        most = max(len(some) for some in pairings)
        alone = {place for some in pairings if len(some) == most for place in set(range(n)) - set(places_of(some))}
        self.assertEqual(self.checked(n, links), most, links)
        told = left_alone(n, links)
        self.assertIs(type(told), list)
        self.assertEqual(told, sorted(alone), links)


class FewPlaces(Checked):

    def test_no_places(self):
        self.assertEqual(largest(0, []), ([], []))
        self.assertEqual(left_alone(0, []), [])

    def test_one_place(self):
        self.assertEqual(largest(1, []), ([], []))
        self.assertEqual(left_alone(1, []), [0])

    def test_no_links(self):
        for n in [2, 3, 10, 40]:
            with self.subTest(n=n):
                self.assertEqual(largest(n, []), ([], []))
                self.assertEqual(left_alone(n, []), list(range(n)))

    def test_one_link(self):
        self.assertEqual(largest(2, [(0, 1)])[0], [(0, 1)])
        self.assertEqual(left_alone(2, [(0, 1)]), [])
        self.assertEqual(largest(4, [(1, 3)])[0], [(1, 3)])
        self.assertEqual(left_alone(4, [(1, 3)]), [0, 2])

    def test_every_net_of_up_to_five_places(self):
        for n in range(0, 6):
            for links in all_nets(n):
                self.counted(n, links)

    def test_nets_of_six_to_nine_places(self):
        chance = random.Random(91)
        for number in range(400):
            n = chance.randrange(6, 10)
            self.counted(n, net_of(some_worries(n, chance.choice([0.15, 0.25, 0.4]), 0, chance)))

    def test_links_in_any_order(self):
        for links in itertools.permutations([(0, 1), (0, 2), (1, 2), (2, 3), (3, 4)]):
            self.assertEqual(self.checked(5, list(links)), 2)
            self.assertEqual(left_alone(5, list(links)), [0, 1, 2, 4])
        chance = random.Random(92)
        for n, net, most, alone in [(8, TWO_HUBS, 2, [0, 1, 2, 4, 6, 7]), (10, THREE_THREES, 4, list(range(9)))]:
            for number in range(100):
                links = list(net)
                chance.shuffle(links)
                self.assertEqual(self.checked(n, links), most)
                self.assertEqual(left_alone(n, links), alone)


class Shapes(Checked):

    def test_odd_rings(self):
        for n in [3, 5, 7, 9]:
            with self.subTest(n=n):
                self.counted(n, ring_net(n))
                self.assertEqual(left_alone(n, ring_net(n)), list(range(n)))
        self.assertEqual(self.checked(39, ring_net(39)), 19)
        self.assertEqual(left_alone(39, ring_net(39)), list(range(39)))

    def test_even_rings(self):
        for n in [4, 6, 8]:
            with self.subTest(n=n):
                self.counted(n, ring_net(n))
                self.assertEqual(left_alone(n, ring_net(n)), [])

    def test_threes_with_few_links_between(self):
        self.counted(6, TWO_THREES)
        self.assertEqual(left_alone(6, TWO_THREES), [])
        self.counted(10, THREE_THREES)
        self.assertEqual(largest(10, THREE_THREES)[1], [9])
        self.assertEqual(left_alone(10, THREE_THREES), list(range(9)))
        for bridge in [(0, 3), (1, 4), (2, 5)]:
            self.counted(9, THREE_THREES[:9] + [bridge])
            self.counted(9, THREE_THREES[:9] + [bridge, (5, 6)])

    def test_links_at_a_few_places_alone(self):
        self.counted(8, TWO_HUBS)
        self.assertEqual(largest(8, TWO_HUBS)[1], [3, 5])
        self.assertEqual(left_alone(8, TWO_HUBS), [0, 1, 2, 4, 6, 7])
        self.counted(8, TWO_HUBS + [(3, 5)])
        self.assertEqual(largest(8, TWO_HUBS + [(3, 5)])[1], [3, 5])

    def test_all_places_linked(self):
        for n in range(0, 9):
            with self.subTest(n=n):
                self.counted(n, all_links(n))
                self.assertEqual(left_alone(n, all_links(n)), list(range(n)) if n % 2 else [])

    def test_a_full_pairing_leaves_nobody_alone(self):
        chain = [(0, 1), (1, 2), (2, 3), (3, 4), (4, 5)]
        self.assertEqual(largest(6, chain)[0], [(0, 1), (2, 3), (4, 5)])
        self.assertEqual(left_alone(6, chain), [])


class FortyPlaces(Checked):

    def test_all_places_linked(self):
        for n in [39, 40, 41]:
            self.assertEqual(self.checked(n, all_links(n)), n // 2)
            self.assertEqual(left_alone(n, all_links(n)), list(range(n)) if n % 2 else [])

    def test_a_chain(self):
        chain = [(place, place + 1) for place in range(39)]
        for links in [chain, chain[::-1], chain[1::2] + chain[::2]]:
            self.assertEqual(largest(40, links)[0], chain[::2])
            self.assertEqual(left_alone(40, links), [])

    def test_all_links_at_a_few_places(self):
        hubs = [4, 17, 30]
        links = [(u, v) for u, v in all_links(40) if u in hubs or v in hubs]
        self.assertEqual(self.checked(40, links), 3)
        self.assertEqual(largest(40, links)[1], hubs)
        self.assertEqual(left_alone(40, links), [place for place in range(40) if place not in hubs])

    def test_thirteen_threes_and_a_place(self):
        threes = [(3 * one + u, 3 * one + v) for one in range(13) for u, v in [(0, 1), (0, 2), (1, 2)]]
        links = threes + [(3 * one, 39) for one in range(13)]
        self.assertEqual(self.checked(40, links), 14)
        self.assertEqual(left_alone(40, links), list(range(39)))
        self.assertEqual(self.checked(40, threes), 13)
        self.assertEqual(left_alone(40, threes), list(range(40)))

    def test_nets_with_few_and_many_links(self):
        chance = random.Random(93)
        for number in range(60):
            n = chance.choice([38, 39, 40, 44])
            links = net_of(some_worries(n, chance.choice([0.03, 0.05, 0.08, 0.3]), 0, chance))
            alone = n - 2 * self.checked(n, links)
            told = left_alone(n, links)
            self.assertGreaterEqual(len(told), alone)
            for place in range(n):
                # Who can be left alone can be spared: the others make as large a pairing without them.
                rest = [link for link in links if place not in link]
                self.assertEqual(place in told, 2 * self.checked(n, rest) == n - alone)
            self.checked(n, net_of(far_worries(n, 2, chance)))


class OnesOwn(unittest.TestCase):

    NETS = [(0, []), (1, []), (4, []), (5, ring_net(5)), (6, TWO_THREES), (8, TWO_HUBS), (10, THREE_THREES)]

    def test_what_is_handed_in_stays(self):
        for n, net in self.NETS:
            for ask in [largest, left_alone]:
                links = net[::-1]
                ask(n, links)
                self.assertEqual(links, net[::-1])

    def test_a_change_of_what_was_told_changes_nothing_later(self):
        for n, links in self.NETS:
            pairing, out = largest(n, links)
            alone = left_alone(n, links)
            kept = (list(pairing), list(out), list(alone))
            for told in [pairing, out, alone]:
                told.append((0, 99))
                told.insert(0, 98)
            self.assertEqual((*largest(n, links), left_alone(n, links)), kept)
            self.assertIsNot(largest(n, links)[0], largest(n, links)[0])
            self.assertIsNot(largest(n, links)[1], largest(n, links)[1])

    def test_a_change_of_what_was_handed_in_changes_nothing_later(self):
        for n, net in self.NETS:
            links = list(net)
            told = largest(n, links)
            alone = left_alone(n, links)
            kept = (list(told[0]), list(told[1]), list(alone))
            links.clear()
            self.assertEqual((*told, alone), kept)
            self.assertEqual((*largest(n, list(net)), left_alone(n, list(net))), kept)
            self.assertEqual(largest(n, links), ([], []))


if __name__ == "__main__":
    unittest.main()

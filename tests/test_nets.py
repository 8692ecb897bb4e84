"""Nets: vetting (5), parts (6), pairings (7); nothing handed in is changed, what is told is the asker's own (2)."""

import copy
import itertools
import unittest

from rollcall.errors import NoNet
from rollcall.nets import is_full, is_pairing, odd_parts, parts, vet

MANY_FIGURES = 10 ** 5000
PATH = [(0, 1), (1, 2), (2, 3)]
RING = [(0, 1), (1, 2), (2, 3), (3, 4), (4, 5), (0, 5)]


def all_links(n):
    return [(u, v) for u in range(n) for v in range(u + 1, n)]


def sub_lists(things):
    return [list(some) for size in range(len(things) + 1) for some in itertools.combinations(things, size)]


def all_nets(n):
    return sub_lists(all_links(n))


class Vet(unittest.TestCase):

    def refused(self, n, links):
        kept = copy.deepcopy(links)
        with self.assertRaises(NoNet):
            vet(n, links)
        self.assertEqual(links, kept)

    def test_numbers_of_places(self):
        for n in range(0, 41):
            with self.subTest(n=n):
                self.assertIs(vet(n, []), True)

    def test_numbers_out_of_bounds(self):
        for n in [-1, -2, -40, 41, 42, 100, 10 ** 59, -10 ** 59, MANY_FIGURES, -MANY_FIGURES]:
            with self.subTest(bits=n.bit_length(), negative=n < 0):
                self.refused(n, [])

    def test_what_is_no_whole_number(self):
        for n in [True, False, None, "", "0", "4", "ann", [], (), [4], (4,), [[]], ((0, 1),)]:
            with self.subTest(n=n):
                self.refused(n, [])

    def test_bad_numbers_with_links(self):
        for n in [-1, 41, True, "4", None]:
            with self.subTest(n=n):
                self.refused(n, [(0, 1)])

    def test_good_links_in_any_order(self):
        for links in itertools.permutations([(0, 1), (0, 2), (1, 3), (2, 3)]):
            with self.subTest(links=links):
                handed = list(links)
                self.assertIs(vet(4, handed), True)
                self.assertEqual(handed, list(links))

    def test_all_links_of_forty_places(self):
        self.assertIs(vet(40, all_links(40)), True)
        self.assertIs(vet(40, all_links(40)[::-1]), True)
        self.assertIs(vet(40, [(0, 39), (38, 39), (0, 1)]), True)

    def test_links_that_are_alike_but_not_the_same(self):
        self.assertIs(vet(3, [(0, 1), (0, 2), (1, 2)]), True)

    def test_links_by_number_of_places(self):
        for n in range(0, 6):
            for u in range(-3, 8):
                for v in range(-3, 8):
                    with self.subTest(n=n, link=(u, v)):
                        if 0 <= u < v < n:
                            self.assertIs(vet(n, [(u, v)]), True)
                        else:
                            self.refused(n, [(u, v)])

    def bad_things(self):
        return [
            (1, 1), (0, 0), (1, 0), (3, 2), (-1, 2), (-2, -1), (0, 4), (3, 4), (4, 5), (0, 40), (0, 10 ** 59),
            (-10 ** 59, 1), (0, MANY_FIGURES), (-MANY_FIGURES, 0), (MANY_FIGURES, MANY_FIGURES + 1),
            [0, 1], [2, 3], [], [(2, 3)], (), (2,), (0, 1, 2), (2, 3, 0), (2, 3, 3), ((2, 3),), ((2, 3), (0, 3)),
            (True, 2), (False, 2), (0, True), (False, True), (False, 3), (True, 3),
            ("0", 3), (2, "3"), ("a", "b"), ("", 1), ((0,), 3), (2, (3,)), ([0], 3), (2, [3]), ([], []), ((), ()),
            (None, 3), (2, None), (None, None), ([[[0]]], 3),
            0, 1, 2, 23, -1, True, False, None, "", "01", "ab", "(2, 3)", MANY_FIGURES]

    def test_bad_things_at_any_place_of_the_list(self):
        for number, thing in enumerate(self.bad_things()):
            with self.subTest(number=number):
                self.refused(4, [thing])
                self.refused(4, [thing, (0, 1), (1, 2)])
                self.refused(4, [(0, 1), thing, (1, 2)])
                self.refused(4, [(0, 1), (1, 2), thing])

    def test_a_link_twice(self):
        self.refused(4, [(0, 1), (0, 1)])
        self.refused(4, [(0, 1), (1, 2), (0, 1)])
        self.refused(4, [(1, 2), (0, 3), (2, 3), (2, 3)])
        self.refused(40, all_links(40) + [(38, 39)])

    def test_a_link_and_the_same_turned_round(self):
        self.refused(4, [(0, 1), (1, 0)])
        self.refused(4, [(1, 0), (0, 1)])

    def test_links_where_there_are_no_places(self):
        self.refused(0, [(0, 1)])
        self.refused(1, [(0, 1)])
        self.refused(1, [(0, 0)])
        self.assertIs(vet(2, [(0, 1)]), True)


def parts_by_ways(n, links, out):
    """The parts, by where ways lead, written otherwise than in the program."""
    left = [place for place in range(n) if place not in out]
    told = []
    for first in left:
        if any(first in part for part in told):
            continue
        found = {first}
        for step in range(n):
            found |= {v for u, v in links if u in found and v in left}
            found |= {u for u, v in links if v in found and u in left}
        told.append(sorted(found))
    return told


class Parts(unittest.TestCase):

    def both(self, n, links, out, told):
        self.assertEqual(parts(n, links, out), told)
        self.assertEqual(odd_parts(n, links, out), [part for part in told if len(part) in range(1, n + 1, 2)])

    def test_no_places(self):
        self.both(0, [], [], [])

    def test_no_links(self):
        self.both(1, [], [], [[0]])
        self.both(4, [], [], [[0], [1], [2], [3]])
        self.both(4, [], [1, 3], [[0], [2]])

    def test_all_places_taken_out(self):
        self.both(1, [], [0], [])
        self.both(4, PATH, [0, 1, 2, 3], [])
        self.both(4, PATH, [3, 2, 1, 0], [])

    def test_places_taken_out_break_ways(self):
        self.both(4, PATH, [], [[0, 1, 2, 3]])
        self.both(4, PATH, [0], [[1, 2, 3]])
        self.both(4, PATH, [1], [[0], [2, 3]])
        self.both(4, PATH, [2], [[0, 1], [3]])
        self.both(4, PATH, [3], [[0, 1, 2]])
        self.both(6, RING, [2], [[0, 1, 3, 4, 5]])
        self.both(6, RING, [2, 4], [[0, 1, 5], [3]])

    def test_places_taken_out_in_rising_and_falling_order(self):
        for out in itertools.permutations([0, 2, 4]):
            with self.subTest(out=out):
                self.both(6, RING, list(out), [[1], [3], [5]])
        self.both(5, [(0, 4), (1, 4), (2, 4), (3, 4)], [4], [[0], [1], [2], [3]])

    def test_order_is_by_least_places_not_by_links_or_sizes(self):
        self.both(6, [(4, 5), (2, 3), (0, 1)], [], [[0, 1], [2, 3], [4, 5]])
        self.both(6, [(1, 4), (0, 5), (2, 3)], [], [[0, 5], [1, 4], [2, 3]])
        self.both(7, [(3, 6), (1, 6), (2, 5)], [], [[0], [1, 3, 6], [2, 5], [4]])

    def test_a_far_place_that_is_linked_late(self):
        self.both(6, [(4, 5), (3, 4), (2, 3), (1, 2), (0, 1)], [], [[0, 1, 2, 3, 4, 5]])
        self.both(6, [(0, 5), (2, 4), (1, 4), (1, 3), (3, 5)], [], [[0, 1, 2, 3, 4, 5]])

    def test_odd_parts_in_the_same_order(self):
        self.assertEqual(odd_parts(9, [(0, 8), (1, 7), (1, 5), (2, 3)], []), [[1, 5, 7], [4], [6]])
        self.assertEqual(odd_parts(4, PATH, []), [])
        self.assertEqual(odd_parts(3, [(0, 2), (1, 2)], []), [[0, 1, 2]])

    def test_links_in_any_order(self):
        for links in itertools.permutations([(0, 3), (3, 6), (1, 4), (4, 5), (1, 5)]):
            with self.subTest(links=links):
                self.both(7, list(links), [], [[0, 3, 6], [1, 4, 5], [2]])

    def test_every_net_of_up_to_four_places(self):
        for n in range(0, 5):
            for links in all_nets(n):
                for out in sub_lists(range(n)):
                    told = parts_by_ways(n, links, out)
                    self.assertEqual(parts(n, links, out), told, (n, links, out))
                    self.assertEqual(parts(n, links[::-1], out[::-1]), told, (n, links, out))
                    self.assertEqual(odd_parts(n, links[::-1], out), [part for part in told if len(part) in (1, 3)])

    def test_every_net_of_five_places(self):
        for links in all_nets(5):
            for out in [[], [2], [4, 0]]:
                told = parts_by_ways(5, links, out)
                self.assertEqual(parts(5, links, out), told, (links, out))

    def test_forty_places_and_somewhat_more(self):
        for n in [39, 40, 41, 50]:
            chain = [(place, place + 1) for place in range(n - 1)]
            everything = list(range(n))
            with self.subTest(n=n):
                self.both(n, chain, [], [everything])
                self.both(n, chain[::-1], [], [everything])
                self.both(n, chain[::2] + chain[1::2], [], [everything])
                self.both(n, all_links(n), [], [everything])
                self.both(n, chain, everything[1::2], [[place] for place in everything[::2]])
                self.both(n, chain, [7], [everything[:7], everything[8:]])

    def test_nothing_handed_in_is_changed(self):
        for ask in [parts, odd_parts]:
            links = [(3, 4), (0, 2), (1, 2)]
            out = [4, 1]
            ask(6, links, out)
            self.assertEqual((links, out), ([(3, 4), (0, 2), (1, 2)], [4, 1]))

    def test_what_is_told_is_the_askers_own(self):
        for ask in [parts, odd_parts]:
            with self.subTest(ask=ask.__name__):
                links = [(0, 1), (1, 2), (3, 4)]
                first = ask(6, links, [4])
                self.assertEqual(first, [[0, 1, 2], [3], [5]])
                first[0].append(9)
                first[1].clear()
                first.append([7])
                second = ask(6, links, [4])
                self.assertEqual(second, [[0, 1, 2], [3], [5]])
                self.assertEqual(first, [[0, 1, 2, 9], [], [5], [7]])

    def test_a_change_of_what_was_handed_in_changes_nothing_told(self):
        for ask in [parts, odd_parts]:
            with self.subTest(ask=ask.__name__):
                links = [(0, 1), (1, 2)]
                out = [3]
                first = ask(5, links, out)
                self.assertEqual(first, [[0, 1, 2], [4]])
                links.clear()
                out.append(4)
                self.assertEqual(first, [[0, 1, 2], [4]])
                self.assertEqual(ask(5, links, out), [[0], [1], [2]])
                self.assertEqual(ask(5, [(0, 1), (1, 2)], [3]), [[0, 1, 2], [4]])


def pairing_by_counting(links, some):
    ends = [place for link in some for place in link]
    return all(link in links for link in some) and len(ends) == len(set(ends))


class Pairings(unittest.TestCase):

    def asked(self, n, links, some, pairing, full):
        kept = (list(links), list(some))
        self.assertIs(is_pairing(n, links, some), pairing)
        self.assertIs(is_full(n, links, some), full)
        self.assertEqual((links, some), kept)

    def test_the_empty_list(self):
        self.asked(0, [], [], True, True)
        self.asked(1, [], [], True, False)
        self.asked(2, [(0, 1)], [], True, False)
        self.asked(4, PATH, [], True, False)

    def test_full_ones_in_any_order(self):
        self.asked(2, [(0, 1)], [(0, 1)], True, True)
        self.asked(4, PATH, [(0, 1), (2, 3)], True, True)
        self.asked(4, PATH, [(2, 3), (0, 1)], True, True)
        for some in itertools.permutations([(0, 1), (2, 3), (4, 5)]):
            self.asked(6, RING, list(some), True, True)
            self.asked(6, RING[::-1], list(some), True, True)

    def test_such_as_leave_some_alone(self):
        self.asked(4, PATH, [(1, 2)], True, False)
        self.asked(6, RING, [(1, 2), (4, 5)], True, False)
        self.asked(6, RING, [(4, 5), (1, 2)], True, False)
        self.asked(3, [(0, 1), (1, 2)], [(0, 1)], True, False)
        self.asked(5, PATH, [(0, 1), (2, 3)], True, False)

    def test_a_place_in_common(self):
        self.asked(4, PATH, [(0, 1), (1, 2)], False, False)
        self.asked(4, PATH, [(1, 2), (0, 1)], False, False)
        self.asked(4, [(0, 1), (0, 2)], [(0, 1), (0, 2)], False, False)
        self.asked(4, [(0, 2), (1, 2)], [(0, 2), (1, 2)], False, False)
        self.asked(6, RING, [(0, 1), (2, 3), (0, 5)], False, False)

    def test_a_link_twice(self):
        self.asked(2, [(0, 1)], [(0, 1), (0, 1)], False, False)
        self.asked(4, PATH, [(0, 1), (0, 1)], False, False)
        self.asked(4, PATH, [(0, 1), (2, 3), (0, 1)], False, False)

    def test_a_link_turned_round(self):
        self.asked(2, [(0, 1)], [(1, 0)], False, False)
        self.asked(4, PATH, [(0, 1), (3, 2)], False, False)
        self.asked(4, PATH, [(1, 0), (2, 3)], False, False)

    def test_no_link_of_the_net(self):
        self.asked(4, PATH, [(0, 2)], False, False)
        self.asked(4, PATH, [(0, 3), (1, 2)], False, False)
        self.asked(4, PATH, [(1, 2), (0, 3)], False, False)
        self.asked(4, [], [(0, 1), (2, 3)], False, False)
        self.asked(4, PATH, [(1, 1)], False, False)
        self.asked(4, PATH, [(0, 1), (2, 2)], False, False)

    def test_places_beyond_the_net(self):
        for link in [(3, 4), (4, 5), (-1, 0), (-2, -1), (0, 10 ** 59), (-10 ** 59, 3)]:
            with self.subTest(link=link):
                self.asked(4, PATH, [link], False, False)
                self.asked(4, PATH, [(1, 2), link], False, False)
        self.asked(0, [], [(0, 1)], False, False)
        self.asked(2, [(0, 1)], [(0, 1), (2, 3)], False, False)

    def test_every_list_of_up_to_two_in_every_net_of_four_places(self):
        tuples = [(u, v) for u in range(-1, 5) for v in range(-1, 5)]
        lists = [[]] + [[one] for one in tuples] + [[one, other] for one in tuples for other in tuples]
        for links in all_nets(4):
            for some in lists:
                pairing = pairing_by_counting(links, some)
                if is_pairing(4, links, some) is not pairing or is_full(4, links, some) is not (
                        pairing and len(some) == 2):
                    self.fail((links, some))

    def test_forty_places_and_somewhat_more(self):
        for n in [40, 42]:
            pairs = [(place, n - 1 - place) for place in range(n // 2)]
            with self.subTest(n=n):
                self.asked(n, all_links(n), pairs, True, True)
                self.asked(n, all_links(n), pairs[::-1], True, True)
                self.asked(n, all_links(n), pairs[1:], True, False)
                self.asked(n, all_links(n), pairs + pairs[:1], False, False)
                self.asked(n + 1, all_links(n + 1), pairs, True, False)

    def test_a_change_of_what_was_handed_in_is_seen_later_alone(self):
        links = [(0, 1), (2, 3)]
        some = [(0, 1)]
        self.asked(4, links, some, True, False)
        some.append((2, 3))
        self.asked(4, links, some, True, True)
        links.pop()
        self.asked(4, links, some, False, False)
        self.asked(4, [(0, 1), (2, 3)], [(0, 1), (2, 3)], True, True)


if __name__ == "__main__":
    unittest.main()

"""The web of bodies, on which the largest and the best pairing (9 to 13) are to be built."""

import unittest

from rollcall.web import Web, body_number, joint_on


def ring_of(web, places):
    """The outermost bodies of these places put together, in this order, joined at these places."""
    bodies = [web.outer[place] for place in places]
    joints = [(place, places[(number + 1) % len(places)]) for number, place in enumerate(places)]
    return web.put_together(bodies, joints, bodies[0].tip)


class NewWeb(unittest.TestCase):

    def test_no_places(self):
        web = Web(0, [])
        self.assertEqual((web.outermost(), web.pairing(), web.prices(), web.groups()), ([], [], [], []))

    def test_prices_begin_with_the_least_worry(self):
        self.assertEqual(Web(3, []).prices(), [0, 0, 0])
        self.assertEqual(Web(3, [(0, 1, 7), (1, 2, 5)]).prices(), [5, 5, 5])
        self.assertEqual(Web(3, [(0, 1, -7), (1, 2, 5)]).prices(), [-7, -7, -7])

    def test_all_places_are_alone(self):
        web = Web(3, [(0, 1, 7), (1, 2, 5)])
        self.assertEqual(web.mates, [None, None, None])
        self.assertEqual(web.pairing(), [])
        self.assertEqual([body.places for body in web.outermost()], [[0], [1], [2]])

    def test_what_is_handed_in_stays_and_is_not_kept(self):
        worries = [(1, 2, 5), (0, 1, 7)]
        web = Web(3, worries)
        self.assertEqual(worries, [(1, 2, 5), (0, 1, 7)])
        worries.clear()
        self.assertEqual(web.links, [(1, 2, 10), (0, 1, 14)])


class RingsOfBodies(unittest.TestCase):

    def test_a_ring_is_one_body_with_the_price_nought(self):
        web = Web(5, [(0, 1, 3)])
        ring = ring_of(web, [3, 0, 4])
        self.assertEqual(ring.places, [0, 3, 4])
        self.assertEqual(ring.tip, 3)
        self.assertEqual(ring.price, 0)
        self.assertEqual([body.places for body in web.outermost()], [[0, 3, 4], [1], [2]])
        self.assertEqual(web.sums, [3, 3, 3, 3, 3])

    def test_a_ring_keeps_its_own_lists(self):
        web = Web(3, [])
        bodies = list(web.singles)
        joints = [(0, 1), (1, 2), (2, 0)]
        ring = web.put_together(bodies, joints, 0)
        bodies.clear()
        joints.clear()
        self.assertEqual([body.places for body in ring.inner], [[0], [1], [2]])
        self.assertEqual(ring.joints, [(0, 1), (1, 2), (2, 0)])

    def test_all_but_the_tip_are_paired_along_the_ring(self):
        web = Web(6, [])
        ring = ring_of(web, [4, 1, 3, 0, 2])
        for tip, wanted in [(4, [(0, 2), (1, 3)]), (1, [(0, 3), (2, 4)]), (3, [(0, 2), (1, 4)]),
                            (0, [(1, 3), (2, 4)]), (2, [(0, 3), (1, 4)])]:
            with self.subTest(tip=tip):
                web.lead_out(ring, tip)
                web.tie(tip, 5)
                self.assertEqual(ring.tip, tip)
                self.assertEqual(web.pairing(), sorted(wanted + [(tip, 5)]))

    def test_a_ring_within_a_ring(self):
        web = Web(8, [])
        small = ring_of(web, [0, 1, 2])
        large = web.put_together(
            [small, web.outer[3], web.outer[4], web.outer[5], web.outer[6]],
            [(1, 3), (3, 4), (4, 5), (5, 6), (6, 2)], 0)
        for tip, wanted in [(0, [(1, 2), (3, 4), (5, 6)]), (1, [(0, 2), (3, 4), (5, 6)]),
                            (2, [(0, 1), (3, 4), (5, 6)]), (3, [(0, 1), (2, 6), (4, 5)]),
                            (4, [(0, 2), (1, 3), (5, 6)]), (5, [(0, 1), (2, 6), (3, 4)]),
                            (6, [(0, 2), (1, 3), (4, 5)])]:
            with self.subTest(tip=tip):
                web.lead_out(large, tip)
                web.tie(tip, 7)
                self.assertEqual(web.pairing(), sorted(wanted + [(tip, 7)]))
                self.assertEqual(web.mates[large.tip], 7)
                self.assertEqual([web.mates[place] in [0, 1, 2] for place in [0, 1, 2]].count(False), 1)
                self.assertNotIn(web.mates[small.tip], [0, 1, 2])

    def test_taken_apart_its_bodies_are_outermost_again(self):
        web = Web(6, [])
        small = ring_of(web, [0, 1, 2])
        large = ring_of(web, [1, 5, 3])
        self.assertEqual([body.places for body in web.outermost()], [[0, 1, 2, 3, 5], [4]])
        web.take_apart(large)
        self.assertEqual([body.places for body in web.outermost()], [[0, 1, 2], [3], [4], [5]])
        web.take_apart(small)
        self.assertEqual([body.places for body in web.outermost()], [[0], [1], [2], [3], [4], [5]])

    def test_prices_and_groups(self):
        web = Web(6, [(0, 1, 2)])
        small = ring_of(web, [0, 1, 2])
        web.lift(small, 4)
        large = ring_of(web, [1, 5, 3])
        self.assertEqual(web.groups(), [((0, 1, 2), 4)])
        web.lift(large, 3)
        web.lift(web.outer[4], -5)
        self.assertEqual(web.prices(), [2, 2, 2, 2, -3, 2])
        self.assertEqual(sorted(web.groups()), [((0, 1, 2), 4), ((0, 1, 2, 3, 5), 3)])
        self.assertEqual(web.sums, [9, 9, 9, 5, -3, 5])

    def test_where_a_place_is_and_the_joints_both_ways(self):
        web = Web(6, [])
        ring_of(web, [0, 1, 2])
        ring = ring_of(web, [1, 5, 3])
        self.assertEqual([body_number(ring, place) for place in [0, 1, 2, 5, 3]], [0, 0, 0, 1, 2])
        self.assertEqual([joint_on(ring, number, 1) for number in [0, 1, 2, 3]], [(1, 5), (5, 3), (3, 1), (1, 5)])
        self.assertEqual([joint_on(ring, number, -1) for number in [-1, 0, 1, 2]], [(3, 5), (1, 3), (5, 1), (3, 5)])

    def test_what_is_told_is_the_askers_own(self):
        web = Web(4, [(0, 1, 1)])
        web.lift(ring_of(web, [0, 1, 2]), 2)
        web.lead_out(web.outer[0], 0)
        web.tie(0, 3)
        for ask in [web.outermost, web.pairing, web.prices, web.groups]:
            kept = ask()
            ask().clear()
            self.assertEqual(ask(), kept)
            self.assertNotEqual(ask(), [])


if __name__ == "__main__":
    unittest.main()

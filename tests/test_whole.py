"""The promise over the whole (1, 3): houses over many turns, with all that is paired and all that is hindered."""

import collections
import random
import unittest

from rollcall.errors import Hindered, NotTold, TooFew
from rollcall.nets import odd_parts
from samples import Case, all_links, cards_by, house_of, may_rest, might_meet, price_on, tables_of

NAMES = [one + other for one in "abcdefg" for other in "abcdefg"]


def allowed_by(turns, names):
    """Point 3 by the turns alone: those of the names who may meet in the next turn, and those who may rest."""
    met, sides, rested = set(), collections.defaultdict(str), set()
    for window, door, won in [table for turn in turns for table in turn]:
        if door == "":
            rested.add(window)
        else:
            met |= {(window, door), (door, window)}
            sides[window] += "w"
            sides[door] += "d"

    def may_take(name, side):
        behind = sides[name] + side
        more = behind.count(side) - (len(behind) - behind.count(side))
        return not behind.endswith(side * 3) and more < 3

    def may_meet(one, other):
        ways = [may_take(one, "w") and may_take(other, "d"), may_take(one, "d") and may_take(other, "w")]
        return (one, other) not in met and any(ways)

    links = [(u, v) for u, v in all_links(len(names)) if may_meet(names[u], names[v])]
    if len(names) % 2 == 1:
        links += [(u, len(names)) for u, name in enumerate(names) if name not in rested]
    return links


class Whole(Case):

    def setUp(self):
        self.seen = {"paired": 0, "hindered": 0, "named": 0, "chairs": 0, "groups": 0, "away": 0, "too few": 0}

    def one_turn(self, house):
        """Whether a turn was paired; all that is promised is looked at, paired or not."""
        here = [name for name, is_here in house.guests() if is_here]
        self.seen["away"] += len(here) < len(house.guests())
        if len(here) < 2:
            self.refused(TooFew, house, house.pair)
            self.seen["too few"] += 1
            return False
        cards = cards_by(house.turns(), house.guests())
        names = [card[0] for card in cards]
        links = sorted(allowed_by(house.turns(), names))
        self.same_links(cards, links)
        try:
            turn = self.paired(house)
        except Hindered:
            self.show_it(house, names, links)
            return False
        self.prices_show_it(house, names, links, turn)
        return True

    def same_links(self, cards, links):
        # By the cards just those may meet, and rest, whom point 3 lets.
        count = len(cards)
        wanted = [(u, v) for u, v in all_links(count) if might_meet(cards[u], cards[v])]
        if count % 2 == 1:
            wanted += [(u, count) for u, card in enumerate(cards) if may_rest(card)]
        self.assertEqual(sorted(wanted), links)

    def prices_show_it(self, house, names, links, turn):
        places, worries, told, costs, dealing = house.reason()
        self.assertEqual([(u, v) for u, v, worry in worries], links)
        worth = 0
        worry_of = {(u, v): worry for u, v, worry in worries}
        for window, door, won in turn:
            worth += worry_of[tuple(sorted([places.index(window), places.index(door)]))]
        for u, v in links:
            self.assertLessEqual(price_on(u, v, told[2], told[3]), 2 * worry_of[(u, v)])
        self.assertEqual(sum(told[2]) + sum(price for group, price in told[3]), 2 * worth)
        self.seen["paired"] += 1
        self.seen["chairs"] += turn[-1][1] == ""
        self.seen["groups"] += len(told[3])

    def show_it(self, house, names, links):
        told = self.hindered(house)
        places = names + [""] * (len(names) % 2)
        out = [places.index(name) for name in told]
        self.assertEqual(out, sorted(out))
        self.assertGreater(len(odd_parts(len(places), links, out)), len(out))
        self.seen["hindered"] += 1
        self.seen["named"] += len(told) > 0

    def results(self, house, chance):
        tables = tables_of(house.turns()[-1])
        chance.shuffle(tables)
        for table in tables:
            with self.assertRaises(NotTold):
                house.pair()
            house.tell(table, chance.choice([0, 1, 2]))

    def amended(self, house, chance):
        for number, turn in enumerate(house.turns()):
            for table in tables_of(turn):
                if chance.random() < 0.05:
                    house.amend(number, table, chance.choice([0, 1, 2]))

    def come_and_go(self, house, names, share, chance):
        for name, here in house.guests():
            if chance.random() < (share if here else 0.4):
                if here:
                    house.leave(name)
                else:
                    house.back(name)
        if names and chance.random() < 0.5:
            house.enter(names.pop())

    def played(self, n, turns, share, late, chance):
        """A house of n guests, some of them late; turns are tried, results told and amended, guests come and go."""
        names = chance.sample(NAMES, n)
        house = house_of(*names[late:])
        waiting = names[:late]
        for number in range(turns):
            if self.one_turn(house):
                self.results(house, chance)
            self.amended(house, chance)
            self.come_and_go(house, waiting, share, chance)
        return house

    def test_a_few_guests(self):
        chance = random.Random(31)
        for n in range(2, 9):
            for number in range(12):
                self.played(n, 2 * n, chance.choice([0, 0.1, 0.3]), chance.randrange(0, n // 2 + 1), chance)
        self.assertGreater(min(self.seen.values()), 10, self.seen)

    def test_some_more_guests(self):
        chance = random.Random(32)
        for n in range(9, 20):
            for number in range(2):
                self.played(n, n + 6, chance.choice([0, 0.1, 0.2]), chance.randrange(0, n // 2 + 1), chance)
        del self.seen["too few"]
        self.assertGreater(min(self.seen.values()), 10, self.seen)

    def test_many_guests(self):
        chance = random.Random(33)
        for n, turns in [(24, 25), (31, 12), (39, 41), (40, 41), (41, 6), (44, 6)]:
            self.played(n, turns, chance.choice([0, 0.1]), chance.randrange(0, 3), chance)
        self.assertGreater(self.seen["paired"], 80, self.seen)
        self.assertGreater(self.seen["groups"], 10, self.seen)

    def test_till_nobody_can_meet(self):
        # Nobody comes or goes: the turns end where all have met, or sides hinder it, and stay hindered then.
        chance = random.Random(34)
        for n in list(range(2, 15)) + [20, 25]:
            house = house_of(*NAMES[:n])
            while self.one_turn(house):
                self.results(house, chance)
            self.assertLessEqual(len(house.turns()), n if n % 2 else n - 1)
            self.assertFalse(self.one_turn(house))
        self.assertEqual(self.seen["hindered"], 30)

    def test_results_all_alike(self):
        for won in [0, 1, 2]:
            for n in [6, 9, 16, 17]:
                house = house_of(*NAMES[:n])
                while self.one_turn(house):
                    for table in tables_of(house.turns()[-1]):
                        house.tell(table, won)


if __name__ == "__main__":
    unittest.main()

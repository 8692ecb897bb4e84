"""Nets, worries, turns and cards for the tests, pairings found by trying them all, and checks of what is told."""

import copy
import itertools
import re
import unittest

from rollcall.errors import Hindered
from rollcall.house import House
from rollcall.nets import odd_parts

# Odd rings within odd rings: the web of these worries ends with groups in groups.
NESTED = [
    (0, 1, 0), (0, 2, 0), (1, 2, 0), (2, 3, 2), (3, 4, 2), (0, 4, 2), (3, 5, 9), (1, 6, 30), (4, 7, 9),
    (5, 6, 0), (6, 7, 0), (5, 7, 0)]
NO_NAMES = ["", " ", "Ann", "an n", "ann ", " ann", "ann1", "0", "-", "a" * 13, "a" * 60, "ann;", "~"]
NO_TEXTS = [
    None, True, False, 0, 1, -1, 12, 10 ** 59,
    [], (), ["ann"], ("ann",), ["a", "b"], ("a", "b"), [1], (1,), [None], (True,), [[["ann"]]], ((("ann",),),),
    [("ann", 1), [2, "bob"]], list("ann"), tuple("ann")]


def all_links(n):
    return [(u, v) for u in range(n) for v in range(u + 1, n)]


def all_nets(n):
    links = all_links(n)
    return [list(some) for size in range(len(links) + 1) for some in itertools.combinations(links, size)]


def net_of(worries):
    return [(u, v) for u, v, worry in worries]


def places_of(pairing):
    return [place for link in pairing for place in link]


def pairings_of(links):
    """All pairings of a net."""
    if not links:
        return [[]]
    first = links[0]
    apart = [link for link in links if not set(link) & set(first)]
    return pairings_of(links[1:]) + [[first] + some for some in pairings_of(apart)]


def full_pairings(places, links):
    """All full pairings of the places, each in order of its first places."""
    if not places:
        return [[]]
    told = []
    for number in range(1, len(places)):
        if (places[0], places[number]) in links:
            for rest in full_pairings(places[1:number] + places[number + 1:], links):
                told.append([(places[0], places[number])] + rest)
    return told


def worth_of(worries, pairing):
    worry_of = {(u, v): worry for u, v, worry in worries}
    return sum(worry_of[link] for link in pairing)


def least_worth(n, worries, pick=lambda pairing: True):
    """The least worth of all full pairings that are picked; None where there is none."""
    pairings = full_pairings(list(range(n)), set(net_of(worries)))
    return min([worth_of(worries, some) for some in pairings if pick(some)], default=None)


def price_on(u, v, prices, groups):
    return prices[u] + prices[v] + sum(price for places, price in groups if (u in places) != (v in places))


def some_worries(n, share, most, chance):
    told = [(u, v, chance.randint(-most, most)) for u, v in all_links(n) if chance.random() < share]
    chance.shuffle(told)
    return told


def far_worries(n, near, chance):
    """Points on a map, each linked to its nearest ones: such nets make many rings, and take some apart again."""
    spots = [(chance.randrange(100), chance.randrange(100)) for place in range(n)]

    def far(one, other):
        return (spots[one][0] - spots[other][0]) ** 2 + (spots[one][1] - spots[other][1]) ** 2

    links = set()
    for place in range(n):
        others = sorted([other for other in range(n) if other != place], key=lambda other: far(place, other))
        links |= {(min(place, other), max(place, other)) for other in others[:near]}
    return [(u, v, far(u, v)) for u, v in sorted(links)]


def some_turn(names, chance):
    """A turn in which some of the names meet, and perhaps one rests."""
    names = list(names)
    chance.shuffle(names)
    count = chance.randrange(len(names) // 2 + 1)
    tables = [(names[2 * number], names[2 * number + 1], chance.choice([0, 1, 2, None])) for number in range(count)]
    rest = names[2 * count:2 * count + 1] if chance.random() < 0.5 else []
    return tables + [(name, "", 2) for name in rest]


def sum_at(costs, places):
    return sum(costs[row][column] for row, column in enumerate(places))


def least_sum(costs):
    return min(sum_at(costs, places) for places in itertools.permutations(range(len(costs))))


def empty(name):
    return (name, 0, "", (), False, ())


def with_table(kept, number, window, door, won):
    """The cards, a dict by names, with one table more."""
    if door == "":
        name, points, sides, met, rested, tables = kept[window]
        kept[window] = (name, points + 2, sides, met, True, tables)
        return
    for one, other, side, gained in [(window, door, "w", won), (door, window, "d", None if won is None else 2 - won)]:
        name, points, sides, met, rested, tables = kept[one]
        kept[one] = (name, points + (gained or 0), sides + side, met + (other,), rested, tables + (number,))


def all_cards(turns, names):
    kept = {name: empty(name) for name in names}
    for turn in turns:
        for number, (window, door, won) in enumerate(turn):
            with_table(kept, number, window, door, won)
    return kept


def texts(most):
    return ["".join(signs) for size in range(most + 1) for signs in itertools.product("wd", repeat=size)]


def card_of(name, sides, met=(), points=0, rested=False, tables=()):
    return (name, points, sides, met, rested, tables)


def leans_of(sides):
    """The leans of all begins, the one without signs among them."""
    return list(itertools.accumulate([1 if sign == "w" else -1 for sign in sides], initial=0))


def bound_by(sides):
    last = leans_of(sides)[-1]
    if abs(last) >= 2:
        return "wd"[last > 0]
    ends = re.search("(ww|dd)$", sides)
    return {"w": "d", "d": "w"}[ends.group(1)[0]] if ends else ""


def wish_by(sides):
    last = leans_of(sides)[-1]
    if bound_by(sides) or not sides:
        return bound_by(sides)
    return "wd"[last > 0] if last else "wd"[sides[-1] == "w"]


def keeps(sides):
    """No begin leans above 2 or below -2, and no sign comes three times one behind the other."""
    return all(-2 <= one <= 2 for one in leans_of(sides)) and "www" not in sides and "ddd" not in sides


def seated_by(one, other, turn):
    """Whether the first sits at the window, by the three ways of point 22."""
    wishes = wish_by(one) + "-" + wish_by(other)
    if wishes in ["w-d", "w-", "-d"]:
        return True
    if wishes in ["d-w", "d-", "-w"]:
        return False
    if wishes == "-":
        return turn % 2 == 0
    strength = [(bool(bound_by(sides)), abs(leans_of(sides)[-1])) for sides in (one, other)]
    if strength[0][0] != strength[1][0]:
        first = strength[0][0]
    else:
        first = strength[0][1] >= strength[1][1]
    return first if wishes == "w-w" else not first


def may_rest(card):
    return not card[4]


def might_meet(one, other):
    """Whether two may meet, by their cards."""
    both = bound_by(one[2]) + bound_by(other[2])
    return one[0] not in other[3] and other[0] not in one[3] and both not in ["ww", "dd"]


def three_of(cards, u, v):
    """What the worry of two places counts: the square, whether the wishes are alike, and the last number."""
    if v == len(cards):
        return ((cards[u][1] - min(card[1] for card in cards)) ** 2, 0, len(cards[u + 1:]))
    one, other = cards[u], cards[v]
    alike = wish_by(one[2]) + wish_by(other[2]) in ["ww", "dd"]
    return ((one[1] - other[1]) ** 2, int(alike), len(cards[u + 1:v]))


def worries_by(cards):
    """The worries by point 24, with the three counts of each."""
    links = [(u, v) for u, v in all_links(len(cards)) if might_meet(cards[u], cards[v])]
    if len(cards) % 2 == 1:
        links += [(u, len(cards)) for u, card in enumerate(cards) if may_rest(card)]
    weights = (10 ** 12, 10 ** 6, 1)
    told = []
    for u, v in sorted(links):
        three = three_of(cards, u, v)
        told.append((u, v, sum(weight * number for weight, number in zip(weights, three))))
    return told


def order_by(turns, guests):
    """The names of the guests who are here, in the order of the standing of all guests."""
    cards = all_cards(turns, [name for name, here in guests])
    ranks = []
    for place, (name, here) in enumerate(guests):
        faced = sum(cards[other][1] for other in cards[name][3])
        ranks.append((-cards[name][1], -faced, place, name, here))
    return [name for points, faced, place, name, here in sorted(ranks) if here]


def cards_by(turns, guests):
    """The cards of the guests who are here, in that order."""
    cards = all_cards(turns, [name for name, here in guests])
    return [cards[name] for name in order_by(turns, guests)]


def asked(house):
    """All that a house tells."""
    guests = house.guests()
    cards = [house.card(name) for name, here in guests]
    return copy.deepcopy((guests, house.turns(), cards, house.standing(), house.reason()))


def house_of(*names):
    house = House()
    for name in names:
        house.enter(name)
    return house


def tables_of(turn):
    return [number for number, table in enumerate(turn) if table[1] != ""]


def tell_all(house, won):
    """The last turn's tables get their results, all the same one, or one by one from a list."""
    for number in tables_of(house.turns()[-1]):
        house.tell(number, won if isinstance(won, int) else won[number])


class Case(unittest.TestCase):

    def best_holds(self, n, worries, told):
        """The worth of the pairing told, None where none is full; all that point 12 asks of it is looked at."""
        self.assertIs(type(told), tuple)
        if told[0] == "hindered":
            return self.hindered_holds(n, worries, *told[1:])
        self.assertEqual(told[0], "paired")
        return self.paired_holds(n, worries, *told[1:])

    def paired_holds(self, n, worries, pairing, prices, groups):
        self.assertEqual([type(thing) for thing in (pairing, prices, groups)], [list, list, list])
        self.assertLessEqual(set(pairing), set(net_of(worries)))
        self.assertEqual(sorted(places_of(pairing)), list(range(n)))
        self.assertEqual(pairing, sorted(pairing))
        self.assertEqual([type(price) for price in prices], [int] * n)
        for group in groups:
            self.looks_like_a_group(n, group)
        for u, v, worry in worries:
            self.assertLessEqual(price_on(u, v, prices, groups), 2 * worry)
        worth = worth_of(worries, pairing)
        self.assertEqual(sum(prices) + sum(price for places, price in groups), 2 * worth)
        for price in prices + [price for places, price in groups]:
            self.assertLess(abs(price), 10 ** 1000)
        return worth

    def looks_like_a_group(self, n, group):
        self.assertEqual([type(thing) for thing in group], [tuple, int])
        places, price = group
        self.assertIs(type(group), tuple)
        self.assertEqual([type(place) for place in places], [int] * len(places))
        self.assertTrue(len(places) >= 3 and len(places) % 2 == 1)
        self.assertEqual(list(places), sorted(set(places)))
        self.assertLessEqual(set(places), set(range(n)))
        self.assertGreaterEqual(price, 0)

    def hindered_holds(self, n, worries, out):
        self.assertIs(type(out), list)
        self.assertEqual(out, sorted(set(out)))
        self.assertLessEqual(set(out), set(range(n)))
        self.assertGreater(len(odd_parts(n, net_of(worries), out)), len(out))

    def dealing_holds(self, costs, told):
        self.assertIs(type(told), tuple)
        self.assertEqual(len(told), 3)
        for numbers in told:
            self.assertIs(type(numbers), list)
            self.assertEqual(len(numbers), len(costs))
            self.assertTrue(all(type(number) is int for number in numbers), numbers)
        places, ones, others = told
        self.assertEqual(sorted(places), list(range(len(costs))))
        for row, column in itertools.product(range(len(costs)), repeat=2):
            self.assertLessEqual(ones[row] + others[column], costs[row][column], (costs, told))
        for row, column in enumerate(places):
            self.assertEqual(ones[row] + others[column], costs[row][column], (costs, told))
        self.assertEqual(sum(ones) + sum(others), sum_at(costs, places))

    def refused(self, error, house, ask, *things):
        """Refused with just this error, and nothing is changed by it; the error is told."""
        before = asked(house)
        kept = copy.deepcopy(things)
        with self.assertRaises(error) as taken:
            ask(*things)
        self.assertIs(type(taken.exception), error)
        self.assertEqual(asked(house), before)
        self.assertEqual(things, kept)
        return taken.exception

    def paired(self, house):
        """A turn that is paired, with all that points 3, 27 and 31 ask of it looked at."""
        guests, ahead = house.guests(), house.turns()
        turn = house.pair()
        self.assertEqual(house.guests(), guests)
        self.assertEqual(house.turns(), ahead + [turn])
        self.turn_looks_well(turn)
        cards = cards_by(ahead, guests)
        self.reason_holds(cards, house.reason())
        self.turn_by_reason(cards, turn, house.reason(), len(ahead))
        self.promise_holds(house.turns(), [name for name, here in guests])
        return turn

    def turn_looks_well(self, turn):
        self.assertIs(type(turn), list)
        for table in turn:
            self.assertIs(type(table), tuple)
            self.assertEqual(len(table), 3)
            self.assertEqual([type(name) for name in table[:2]], [str, str])
        for window, door, won in turn:
            self.assertEqual(won, 2 if door == "" else None)
        self.assertNotIn("", [door for window, door, won in turn[:-1]])

    def reason_holds(self, cards, reason):
        self.assertIs(type(reason), tuple)
        names, worries, told, costs, dealing = reason
        self.assertEqual(names, [card[0] for card in cards] + [""] * (len(cards) % 2))
        self.assertEqual(worries, worries_by(cards))
        worth = self.best_holds(len(names), worries, told)
        if len(names) <= 8:
            self.assertEqual(worth, least_worth(len(names), worries))
        pairs = [(cards[u], cards[v]) for u, v in told[1] if v < len(cards)]
        self.assertEqual(costs, [[(one[5] + other[5]).count(number) for number in range(len(pairs))]
                                 for one, other in pairs])
        self.dealing_holds(costs, dealing)
        if len(pairs) <= 4:
            self.assertEqual(sum_at(costs, dealing[0]), least_sum(costs))

    def turn_by_reason(self, cards, turn, reason, number):
        names, worries, told, costs, dealing = reason
        pairs = [(cards[u], cards[v]) for u, v in told[1] if v < len(cards)]
        self.assertEqual(len(turn), len(pairs) + len(cards) % 2)
        for place, (one, other) in zip(dealing[0], pairs):
            two = [one[0], other[0]] if seated_by(one[2], other[2], number) else [other[0], one[0]]
            self.assertEqual(turn[place], (two[0], two[1], None))
        rests = [(names[u], "", 2) for u, v in told[1] if v == len(cards)]
        self.assertEqual(turn[len(pairs):], rests)

    def promise_holds(self, turns, names):
        for card in all_cards(turns, names).values():
            self.assertEqual(len(set(card[3])), len(card[3]), card)
            self.assertTrue(keeps(card[2]), card)
        rests = [name for turn in turns for name, other, won in turn if other == ""]
        self.assertEqual(len(set(rests)), len(rests))

    def hindered(self, house):
        """A refused turn, with all that points 3 and 28 ask of its names looked at; the names are told."""
        cards = cards_by(house.turns(), house.guests())
        error = self.refused(Hindered, house, house.pair)
        self.assertIs(type(error.names), list)
        places = [card[0] for card in cards] + [""] * (len(cards) % 2)
        out = [places.index(name) for name in error.names]
        self.hindered_holds(len(places), worries_by(cards), out)
        if len(places) <= 8:
            self.assertIsNone(least_worth(len(places), worries_by(cards)))
        return error.names

"""Nets, worries and turns for the tests, and the pairings of nets, found by trying them all."""

import itertools

# Odd rings within odd rings: the web of these worries ends with groups in groups.
NESTED = [
    (0, 1, 0), (0, 2, 0), (1, 2, 0), (2, 3, 2), (3, 4, 2), (0, 4, 2), (3, 5, 9), (1, 6, 30), (4, 7, 9),
    (5, 6, 0), (6, 7, 0), (5, 7, 0)]


def all_links(n):
    return [(u, v) for u in range(n) for v in range(u + 1, n)]


def all_nets(n):
    links = all_links(n)
    return [list(some) for size in range(len(links) + 1) for some in itertools.combinations(links, size)]


def net_of(worries):
    return [(u, v) for u, v, worry in worries]


def places_of(pairing):
    return [place for link in pairing for place in link]


def pairings_of(links):
    """All pairings of a net."""
    if not links:
        return [[]]
    first = links[0]
    apart = [link for link in links if not set(link) & set(first)]
    return pairings_of(links[1:]) + [[first] + some for some in pairings_of(apart)]


def full_pairings(places, links):
    """All full pairings of the places, each in order of its first places."""
    if not places:
        return [[]]
    told = []
    for number in range(1, len(places)):
        if (places[0], places[number]) in links:
            for rest in full_pairings(places[1:number] + places[number + 1:], links):
                told.append([(places[0], places[number])] + rest)
    return told


def worth_of(worries, pairing):
    worry_of = {(u, v): worry for u, v, worry in worries}
    return sum(worry_of[link] for link in pairing)


def least_worth(n, worries, pick=lambda pairing: True):
    """The least worth of all full pairings that are picked; None where there is none."""
    pairings = full_pairings(list(range(n)), set(net_of(worries)))
    return min([worth_of(worries, some) for some in pairings if pick(some)], default=None)


def price_on(u, v, prices, groups):
    return prices[u] + prices[v] + sum(price for places, price in groups if (u in places) != (v in places))


def some_worries(n, share, most, chance):
    told = [(u, v, chance.randint(-most, most)) for u, v in all_links(n) if chance.random() < share]
    chance.shuffle(told)
    return told


def far_worries(n, near, chance):
    """Points on a map, each linked to its nearest ones: such nets make many rings, and take some apart again."""
    spots = [(chance.randrange(100), chance.randrange(100)) for place in range(n)]

    def far(one, other):
        return (spots[one][0] - spots[other][0]) ** 2 + (spots[one][1] - spots[other][1]) ** 2

    links = set()
    for place in range(n):
        others = sorted([other for other in range(n) if other != place], key=lambda other: far(place, other))
        links |= {(min(place, other), max(place, other)) for other in others[:near]}
    return [(u, v, far(u, v)) for u, v in sorted(links)]


def some_turn(names, chance):
    """A turn in which some of the names meet, and perhaps one rests."""
    names = list(names)
    chance.shuffle(names)
    count = chance.randrange(len(names) // 2 + 1)
    tables = [(names[2 * number], names[2 * number + 1], chance.choice([0, 1, 2, None])) for number in range(count)]
    rest = names[2 * count:2 * count + 1] if chance.random() < 0.5 else []
    return tables + [(name, "", 2) for name in rest]

"""The rings that two full pairings of the same places make, and pairings turned on some of them."""


def mates_of(pairing):
    mates = {}
    for u, v in pairing:
        mates[u] = v
        mates[v] = u
    return mates


def ring_from(begin, first, second):
    ring = [begin, first[begin]]
    place = second[first[begin]]
    while place != begin:
        ring.append(place)
        ring.append(first[place])
        place = second[first[place]]
    return ring


def rings(one, other):
    first = mates_of(one)
    second = mates_of(other)
    taken = {}
    told = []
    for begin in sorted(first):
        if begin not in taken:
            ring = ring_from(begin, first, second)
            for place in ring:
                taken[place] = True
            told.append(ring)
    return told


def turned(one, other, places):
    # A ring has both ends of each of its links, so a link's first place tells on which side the link lies.
    inside = {}
    for place in places:
        inside[place] = True
    kept = [link for link in one if link[0] not in inside]
    gained = [link for link in other if link[0] in inside]
    return sorted(kept + gained)

"""Nets of places and links: whether one is good, its parts, and its pairings."""

from rollcall.errors import NoNet
from rollcall.words import is_whole

MOST_PLACES = 40


def is_link(n, thing):
    if not isinstance(thing, tuple) or len(thing) != 2:
        return False
    if not is_whole(thing[0]) or not is_whole(thing[1]):
        return False
    return thing[0] >= 0 and thing[0] < thing[1] and thing[1] < n


def vet(n, links):
    # The refusals don't show what was handed in: Python won't write out a number of very many figures.
    if not is_whole(n) or n < 0 or n > MOST_PLACES:
        raise NoNet("the number of places is no whole number from 0 to 40")
    seen = {}
    for thing in links:
        if not is_link(n, thing):
            raise NoNet("a thing in the list is no link of these places")
        if thing in seen:
            raise NoNet("a link stands twice")
        seen[thing] = True
    return True


def places_left(n, out):
    left = [True for place in range(n)]
    for place in out:
        left[place] = False
    return left


def least_places(n, links, left):
    # Each place bears the least place of its part: the links, one by one, join parts, and the lesser of the two stays.
    least = list(range(n))
    for u, v in links:
        if left[u] and left[v] and least[u] != least[v]:
            low = min(least[u], least[v])
            high = max(least[u], least[v])
            least = [low if place == high else place for place in least]
    return least


def parts(n, links, out):
    left = places_left(n, out)
    least = least_places(n, links, left)
    told = []
    for first in range(n):
        if left[first] and least[first] == first:
            told.append([place for place in range(n) if least[place] == first])
    return told


def odd_parts(n, links, out):
    return [part for part in parts(n, links, out) if len(part) % 2 == 1]


def is_pairing(n, links, some):
    known = {}
    for link in links:
        known[link] = True
    taken = {}
    for link in some:
        if link not in known:
            return False
        for place in link:
            if place in taken:
                return False
            taken[place] = True
    return True


def is_full(n, links, some):
    # A pairing's links have no place in common, so counting them counts the places.
    return is_pairing(n, links, some) and 2 * len(some) == n

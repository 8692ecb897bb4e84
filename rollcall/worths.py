"""What a pairing is worth, and whether what is told of the best pairing shows what it says."""

from rollcall.nets import is_full, odd_parts


def worth(worries, pairing):
    known = {}
    for u, v, worry in worries:
        known[(u, v)] = worry
    return sum([known[link] for link in pairing])


def links_of(worries):
    return [(u, v) for u, v, worry in worries]


def are_rising(n, places):
    # Unlike places of the net, each above the one ahead of it.
    if list(places) != sorted(set(places)):
        return False
    return all([place >= 0 and place < n for place in places])


def are_groups(n, groups):
    for places, price in groups:
        if len(places) < 3 or len(places) % 2 == 0 or price < 0:
            return False
        if not are_rising(n, places):
            return False
    return True


def price_between(u, v, prices, groups):
    apart = [price for places, price in groups if (u in places) != (v in places)]
    return prices[u] + prices[v] + sum(apart)


def prices_hold(worries, prices, groups):
    return all([price_between(u, v, prices, groups) <= 2 * worry for u, v, worry in worries])


def all_prices(prices, groups):
    return sum(prices) + sum([price for places, price in groups])


def shows_paired(n, worries, pairing, prices, groups):
    if not is_full(n, links_of(worries), pairing) or pairing != sorted(pairing):
        return False
    # Counted ahead of the rows on prices: a place without a price can't be asked for one.
    if len(prices) != n or not are_groups(n, groups):
        return False
    if all_prices(prices, groups) != 2 * worth(worries, pairing):
        return False
    return prices_hold(worries, prices, groups)


def shows_hindered(n, worries, out):
    # Looked at ahead of the parts: only places of the net can be taken out of it.
    if not are_rising(n, out):
        return False
    return len(odd_parts(n, links_of(worries), out)) > len(out)


def shows(n, worries, told):
    if told[0] == "hindered":
        return shows_hindered(n, worries, told[1])
    return shows_paired(n, worries, told[1], told[2], told[3])

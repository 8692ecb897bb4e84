"""The best of the full pairings that have a given link, and of those that have it not."""

from rollcall.best import best


def best_pairing(n, worries):
    told = best(n, worries)
    return told[1] if told[0] == "paired" else None


def forced(n, worries, link):
    # Where the link is the only one at its two places, each full pairing has it.
    kept = []
    for u, v, worry in worries:
        if (u, v) == link or (u not in link and v not in link):
            kept.append((u, v, worry))
    return best_pairing(n, kept)


def barred(n, worries, link):
    return best_pairing(n, [(u, v, worry) for u, v, worry in worries if (u, v) != link])

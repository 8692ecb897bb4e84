"""The worries of those who may meet, by their cards, and what the tables cost their pairs."""

from rollcall.wishes import may_meet, wish


def wish_alike(one, other):
    return wish(one[2]) != "" and wish(one[2]) == wish(other[2])


def worry_at(cards, u, v):
    one = cards[u]
    other = cards[v]
    alike = 1 if wish_alike(one, other) else 0
    return (one[1] - other[1]) ** 2 * 10 ** 12 + alike * 10 ** 6 + v - u - 1


def chair_worry(cards, u):
    least = min([some[1] for some in cards])
    return (cards[u][1] - least) ** 2 * 10 ** 12 + len(cards) - u - 1


def worries(cards):
    told = []
    count = len(cards)
    for u in range(count):
        for v in range(u + 1, count):
            if may_meet(cards[u], cards[v]):
                told.append((u, v, worry_at(cards, u, v)))
        # The empty chair is the place behind all guests, so its worry comes behind the others of u.
        if count % 2 == 1 and not cards[u][4]:
            told.append((u, count, chair_worry(cards, u)))
    return told


def table_costs(pairs):
    told = []
    for one, other in pairs:
        told.append([one[5].count(number) + other[5].count(number) for number in range(len(pairs))])
    return told

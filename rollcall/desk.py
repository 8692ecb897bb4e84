"""The desk: rows of words that are said to a house, and its answers as texts."""

from rollcall.cards import is_rest
from rollcall.errors import NoRow, NoTable
from rollcall.house import House
from rollcall.worths import worth

# By the first word of a row what stands behind it.
ROWS = {
    "enter": ("name",),
    "leave": ("name",),
    "back": ("name",),
    "pair": (),
    "tell": ("number", "number"),
    "amend": ("number", "number", "number"),
    "turn": ("number",),
    "standing": (),
    "card": ("name",),
    "here": (),
    "why": (),
}
CHANGES = ("enter", "leave", "back", "tell", "amend")
FIGURES = "0123456789"
MOST_FIGURES = 60


def is_number(word):
    if len(word) < 1 or len(word) > MOST_FIGURES:
        return False
    if word.startswith("0") and word != "0":
        return False
    return all([sign in FIGURES for sign in word])


def value_of(kind, word):
    if kind == "name":
        return word
    if not is_number(word):
        raise NoRow("a word of the row is no number")
    return int(word)


def words_of(row):
    # The first word, and behind it the names, and the numbers as whole numbers.
    if not isinstance(row, str):
        raise NoRow("this is no text")
    words = row.split(" ")
    if words[0] not in ROWS or len(words) != len(ROWS[words[0]]) + 1:
        raise NoRow("there is no row of these words")
    return words[:1] + [value_of(kind, word) for kind, word in zip(ROWS[words[0]], words[1:])]


def change(house, said):
    if said[0] == "enter":
        house.enter(said[1])
    elif said[0] == "leave":
        house.leave(said[1])
    elif said[0] == "back":
        house.back(said[1])
    elif said[0] == "tell":
        house.tell(said[1], said[2])
    else:
        house.amend(said[1], said[2], said[3])


def answer(house, said):
    if said[0] == "pair":
        return turn_text(house.pair())
    if said[0] == "turn":
        return turn_text(turn_at(house.turns(), said[1]))
    if said[0] == "standing":
        return standing_text(house.standing())
    if said[0] == "card":
        return card_text(house.card(said[1]))
    if said[0] == "here":
        return here_text(house.guests())
    return why_text(house.reason())


def turn_at(turns, number):
    if number >= len(turns):
        raise NoTable("there is no turn of this number")
    return turns[number]


def table_text(table):
    if is_rest(table):
        return table[0]
    words = [table[0], table[1]]
    if table[2] is not None:
        words.append(str(table[2]))
    return " ".join(words)


def turn_text(turn):
    return "; ".join([table_text(table) for table in turn])


def standing_text(rows):
    if not rows:
        return "none"
    return "; ".join([f"{name} {points} {faced}" for name, points, faced in rows])


def card_text(kept):
    words = [str(kept[1]), kept[2] if kept[2] != "" else "-"]
    if kept[4]:
        words.append("rested")
    return " ".join(words + list(kept[3]))


def here_text(guests):
    names = [name for name, here in guests if here]
    return " ".join(names) if names else "none"


def prices_text(names, prices):
    return " ".join([f"{name} {price}" for name, price in zip(names, prices)])


def group_text(names, places, price):
    return " ".join([names[place] for place in places] + [str(price)])


def why_text(reason):
    if reason is None:
        return "none"
    names = [name if name != "" else "-" for name in reason[0]]
    told = reason[2]
    parts = [str(worth(reason[1], told[1])), prices_text(names, told[2])]
    return "; ".join(parts + [group_text(names, places, price) for places, price in told[3]])


class Desk:

    def __init__(self):
        self.house = House()

    def say(self, row):
        said = words_of(row)
        if said[0] in CHANGES:
            change(self.house, said)
            return "ok"
        return answer(self.house, said)

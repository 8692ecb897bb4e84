"""The house: its guests, who come and go, the turns that are paired, their results, and why the last one is so."""

from rollcall.best import best
from rollcall.cards import card, is_rest, standing
from rollcall.dealing import dealt
from rollcall.errors import Hindered, NoGuest, NoName, NoResult, NoTable, NotTold, Told, TooFew
from rollcall.wishes import at_window
from rollcall.words import is_name, is_whole
from rollcall.worries import table_costs, worries


def is_number_of(thing, rows):
    return is_whole(thing) and thing >= 0 and thing < len(rows)


def is_result(thing):
    # To Python True is 1 and False is 0, so being among these numbers is not enough.
    return is_whole(thing) and thing in (0, 1, 2)


def tables_of(turn):
    return [table for table in turn if not is_rest(table)]


def is_told(table):
    return table[2] is not None


def own_copy(thing):
    # Lists may lie in tuples and in other lists, so a copy of the outermost one alone would not be the asker's own.
    if isinstance(thing, list):
        return [own_copy(one) for one in thing]
    if isinstance(thing, tuple):
        return tuple([own_copy(one) for one in thing])
    return thing


def place_names(cards):
    names = [one[0] for one in cards]
    return names + [""] if len(names) % 2 == 1 else names


def pairs_of(cards, pairing):
    # The empty chair is no card: its place is the one behind them.
    return [(cards[u], cards[v]) for u, v in pairing if v < len(cards)]


def grounds_for(cards):
    names = place_names(cards)
    worried = worries(cards)
    told = best(len(names), worried)
    if told[0] == "hindered":
        raise Hindered([names[place] for place in told[1]])
    costs = table_costs(pairs_of(cards, told[1]))
    return (names, worried, told, costs, dealt(costs))


def table_for(one, other, number):
    if at_window(one, other, number):
        return (one[0], other[0], None)
    return (other[0], one[0], None)


def turn_by(cards, grounds, number):
    pairing = grounds[2][1]
    places = grounds[4][0]
    turn = [None for place in places]
    for place, two in zip(places, pairs_of(cards, pairing)):
        turn[place] = table_for(two[0], two[1], number)
    return turn + [(cards[u][0], "", 2) for u, v in pairing if v == len(cards)]


class House:

    def __init__(self):
        # By each name whether the guest is here, in the order in which they entered.
        self.entered = {}
        self.played = []
        self.grounds = None

    def enter(self, name):
        if not is_name(name) or name in self.entered:
            raise NoName("this is no name, or one that has entered")
        self.entered[name] = True

    def leave(self, name):
        if not self.has_guest(name) or not self.entered[name]:
            raise NoGuest("this is no name of a guest who is here")
        self.entered[name] = False

    def back(self, name):
        if not self.has_guest(name) or self.entered[name]:
            raise NoGuest("this is no name of a guest who is away")
        self.entered[name] = True

    def has_guest(self, thing):
        # Whether it is a name goes first: a list can't be looked for among the names.
        return is_name(thing) and thing in self.entered

    def pair(self):
        if self.played and not all([is_told(table) for table in self.played[-1]]):
            raise NotTold("the last turn has a table whose result isn't told")
        cards = self.cards_here()
        if len(cards) < 2:
            raise TooFew("fewer than two guests are here")
        grounds = grounds_for(cards)
        turn = turn_by(cards, grounds, len(self.played))
        self.played.append(turn)
        self.grounds = grounds
        return list(turn)

    def cards_here(self):
        names = [row[0] for row in self.standing()]
        return [card(self.played, name) for name in names if self.entered[name]]

    def tell(self, table, won):
        last = len(self.played) - 1
        self.vet_result(last, table, won)
        if is_told(self.played[last][table]):
            raise Told("the result of this table is told already")
        self.put_result(last, table, won)

    def amend(self, turn, table, won):
        self.vet_result(turn, table, won)
        if not is_told(self.played[turn][table]):
            raise NotTold("the result of this table isn't told yet")
        self.put_result(turn, table, won)

    def vet_result(self, turn, table, won):
        if not is_number_of(turn, self.played):
            raise NoTable("this is no number of a turn")
        if not is_number_of(table, tables_of(self.played[turn])):
            raise NoTable("this is no number of a table of the turn")
        if not is_result(won):
            raise NoResult("this is none of the results 0, 1 and 2")

    def put_result(self, turn, table, won):
        row = self.played[turn][table]
        self.played[turn][table] = (row[0], row[1], won)

    def guests(self):
        return [(name, here) for name, here in self.entered.items()]

    def turns(self):
        return own_copy(self.played)

    def card(self, name):
        if not self.has_guest(name):
            raise NoGuest("this is no name of a guest")
        return card(self.played, name)

    def standing(self):
        return standing(self.played, list(self.entered))

    def reason(self):
        return own_copy(self.grounds)

"""The desk: its rows, their answers, and what is refused (33, and what the house tells and refuses)."""

import random
import unittest

from rollcall.desk import Desk
from rollcall.errors import (
    Hindered, NoGuest, NoName, NoResult, NoRow, NoTable, NotTold, RollError, Told, TooFew)
from rollcall.house import House
from samples import NO_TEXTS, tables_of, worth_of

# By the first word how many names or numbers come behind it.
NAMED = ["enter", "leave", "back", "card"]
NUMBERED = {"tell": 2, "amend": 3, "turn": 1}
ALONE = ["pair", "standing", "here", "why"]
NO_NUMBERS = [
    "", "00", "01", "007", "000", "+1", "-1", "-0", "+0", "1.0", "1e3", "0x1", "one", "a", "1a", "a1", "1_0", "1,0",
    "'1'", "(1)", "[0]", "True", "None", "~", "0" * 60, "0" * 61, "1" * 61, "9" * 100, "1" + "0" * 60, "1" * 5000]


def desk_of(*rows):
    desk = Desk()
    for row in rows:
        desk.say(row)
    return desk


def with_guests(*names):
    return desk_of(*["enter " + name for name in names])


def all_asked(desk, turns, names):
    rows = ALONE[1:] + [f"turn {number}" for number in range(turns)] + [f"card {name}" for name in names]
    return [desk.say(row) for row in rows]


class AtDesk(unittest.TestCase):

    def said(self, desk, row, wanted):
        told = desk.say(row)
        self.assertIs(type(told), str)
        self.assertEqual(told, wanted, row)

    def refused(self, desk, row, error):
        with self.assertRaises(error) as taken:
            desk.say(row)
        self.assertIs(type(taken.exception), error, row)
        return taken.exception


class Guests(AtDesk):

    def test_enter_leave_and_back(self):
        desk = Desk()
        self.said(desk, "here", "none")
        self.said(desk, "enter bob", "ok")
        self.said(desk, "here", "bob")
        self.said(desk, "enter ann", "ok")
        self.said(desk, "enter cid", "ok")
        self.said(desk, "here", "bob ann cid")
        self.said(desk, "leave ann", "ok")
        self.said(desk, "here", "bob cid")
        self.said(desk, "back ann", "ok")
        self.said(desk, "here", "bob ann cid")
        for name in ["bob", "ann", "cid"]:
            self.said(desk, "leave " + name, "ok")
        self.said(desk, "here", "none")

    def test_what_the_house_refuses(self):
        desk = with_guests("ann", "bob")
        for name in ["ann", "Bob", "b0b", "a" * 13, "", "-", "~", "1"]:
            self.refused(desk, "enter " + name, NoName)
        desk.say("leave ann")
        self.refused(desk, "enter ann", NoName)
        self.refused(desk, "leave ann", NoGuest)
        self.refused(desk, "back bob", NoGuest)
        for name in ["cid", "", "Ann", "-", "0", "annbob"]:
            for word in ["leave", "back", "card"]:
                self.refused(desk, word + " " + name, NoGuest)
        self.said(desk, "here", "bob")

    def test_names_like_the_words_of_rows(self):
        desk = with_guests("pair", "none", "rested")
        self.said(desk, "here", "pair none rested")
        self.said(desk, "leave pair", "ok")
        self.said(desk, "pair", "none rested")
        self.said(desk, "card none", "0 w rested")

    def test_desks_are_apart(self):
        one, other = with_guests("ann"), Desk()
        self.said(other, "here", "none")
        self.said(other, "enter ann", "ok")
        self.said(one, "here", "ann")


class Turns(AtDesk):

    def test_pair(self):
        desk = with_guests("ann", "bob", "cid", "dan", "eve")
        told = desk.say("pair").split("; ")
        self.assertEqual(sorted(told[:2]), ["ann bob", "cid dan"])
        self.assertEqual(told[2:], ["eve"])

    def test_one_table(self):
        self.said(with_guests("ann", "bob"), "pair", "ann bob")
        self.said(with_guests("ann", "bob", "cid"), "pair", "ann bob; cid")

    def test_turn(self):
        desk = with_guests("ann", "bob", "cid")
        self.refused(desk, "turn 0", NoTable)
        self.said(desk, "pair", "ann bob; cid")
        self.said(desk, "turn 0", "ann bob; cid")
        self.refused(desk, "turn 1", NoTable)
        for won in [0, 1, 2]:
            self.said(desk, "tell 0 0" if won == 0 else f"amend 0 0 {won}", "ok")
            self.said(desk, "turn 0", f"ann bob {won}; cid")
        self.refused(desk, "turn 1", NoTable)
        self.refused(desk, "turn " + "9" * 60, NoTable)
        self.said(desk, "pair", "cid ann; bob")
        self.said(desk, "turn 0", "ann bob 2; cid")
        self.said(desk, "turn 1", "cid ann; bob")
        self.refused(desk, "turn 2", NoTable)

    def test_a_turn_with_told_and_untold_tables(self):
        desk = with_guests("ann", "bob", "cid", "dan", "eve", "fay", "gus")
        tables = desk.say("pair").split("; ")
        self.assertEqual(tables[3], "gus")
        self.said(desk, "turn 0", "; ".join(tables))
        for number, won in [(1, 0), (0, 2), (2, 1)]:
            self.said(desk, f"tell {number} {won}", "ok")
            tables[number] += f" {won}"
            self.said(desk, "turn 0", "; ".join(tables))

    def test_what_the_house_refuses_of_results(self):
        desk = with_guests("ann", "bob", "cid")
        for row in ["tell 0 1", "tell 0 7", "amend 0 0 1", "amend 7 7 7"]:
            self.refused(desk, row, NoTable)
        desk.say("pair")
        for row in ["tell 1 1", "tell 1 3", "amend 0 1 1", "amend 1 0 1", "amend 1 0 3", "tell " + "9" * 60 + " 1"]:
            self.refused(desk, row, NoTable)
        for row in ["tell 0 3", "tell 0 10", "amend 0 0 3", "tell 0 " + "9" * 60]:
            self.refused(desk, row, NoResult)
        self.refused(desk, "amend 0 0 1", NotTold)
        self.said(desk, "tell 0 1", "ok")
        self.refused(desk, "tell 0 1", Told)
        self.refused(desk, "tell 0 3", NoResult)
        self.said(desk, "turn 0", "ann bob 1; cid")

    def test_what_the_house_refuses_of_pairing(self):
        desk = Desk()
        self.refused(desk, "pair", TooFew)
        desk.say("enter ann")
        self.refused(desk, "pair", TooFew)
        desk.say("enter bob")
        desk.say("pair")
        self.refused(desk, "pair", NotTold)
        desk.say("tell 0 2")
        self.assertEqual(self.refused(desk, "pair", Hindered).names, [])
        self.said(desk, "turn 0", "ann bob 2")
        self.refused(desk, "turn 1", NoTable)

    def test_amended_numbers_stand_in_their_order(self):
        desk = with_guests("ann", "bob", "cid", "dan")
        first = desk.say("pair").split("; ")
        desk.say("tell 0 1")
        desk.say("tell 1 1")
        second = desk.say("pair").split("; ")
        desk.say("tell 0 1")
        desk.say("tell 1 1")
        self.said(desk, "amend 1 0 2", "ok")
        self.said(desk, "turn 0", f"{first[0]} 1; {first[1]} 1")
        self.said(desk, "turn 1", f"{second[0]} 2; {second[1]} 1")
        self.said(desk, "amend 0 1 0", "ok")
        self.said(desk, "turn 0", f"{first[0]} 1; {first[1]} 0")


class Asked(AtDesk):

    def test_standing(self):
        desk = Desk()
        self.said(desk, "standing", "none")
        desk = with_guests("bob", "ann")
        self.said(desk, "standing", "bob 0 0; ann 0 0")
        desk = with_guests("ann", "bob", "cid")
        desk.say("pair")
        self.said(desk, "standing", "cid 2 0; ann 0 0; bob 0 0")
        desk.say("tell 0 0")
        desk.say("leave bob")
        self.said(desk, "standing", "bob 2 0; cid 2 0; ann 0 2")
        desk.say("amend 0 0 1")
        self.said(desk, "standing", "cid 2 0; ann 1 1; bob 1 1")

    def test_one_guest(self):
        desk = with_guests("ann")
        self.said(desk, "standing", "ann 0 0")
        self.said(desk, "card ann", "0 -")
        desk.say("leave ann")
        self.said(desk, "standing", "ann 0 0")
        self.said(desk, "card ann", "0 -")

    def test_card(self):
        desk = with_guests("ann", "bob", "cid")
        self.said(desk, "pair", "ann bob; cid")
        desk.say("tell 0 2")
        self.said(desk, "card ann", "2 w bob")
        self.said(desk, "card bob", "0 d ann")
        self.said(desk, "card cid", "2 - rested")
        # ann and cid have two points each, so bob rests.
        self.said(desk, "pair", "cid ann; bob")
        self.said(desk, "card ann", "2 wd bob cid")
        self.said(desk, "card bob", "2 d rested ann")
        self.said(desk, "card cid", "2 w rested ann")
        desk.say("tell 0 1")
        self.said(desk, "card ann", "3 wd bob cid")
        desk.say("leave cid")
        self.said(desk, "card cid", "3 w rested ann")

    def test_why(self):
        desk = Desk()
        self.said(desk, "why", "none")
        desk = with_guests("ann", "bob", "cid")
        self.said(desk, "why", "none")
        desk.say("pair")
        parts = desk.say("why").split("; ")
        self.assertEqual(parts[0], "0")
        self.assertEqual(parts[1].split(" ")[::2], ["ann", "bob", "cid", "-"])
        first = desk.say("why")
        for row in ["tell 0 2", "amend 0 0 0", "leave ann", "enter dan"]:
            desk.say(row)
            self.said(desk, "why", first)
        self.refused(desk, "tell 0 2", Told)
        self.said(desk, "why", first)

    def test_why_with_alike_wishes(self):
        # Both who are here sat at the window last: the worry is that of alike wishes.
        desk = with_guests("ann", "bob", "cid", "dan")
        desk.say("pair")
        desk.say("tell 0 1")
        desk.say("tell 1 1")
        desk.say("leave bob")
        desk.say("leave dan")
        self.said(desk, "pair", "cid ann")
        parts = desk.say("why").split("; ")
        self.assertEqual(parts[0], "1000000")
        words = parts[1].split(" ")
        self.assertEqual(words[::2], ["ann", "cid"])
        self.assertEqual(int(words[1]) + int(words[3]), 2000000)
        self.assertEqual(len(parts), 2)


class Rows(AtDesk):

    def setUp(self):
        self.desk = with_guests("ann", "bob", "cid")
        self.desk.say("pair")
        self.kept = all_asked(self.desk, 1, ["ann", "bob", "cid"])

    def no_row(self, row):
        self.refused(self.desk, row, NoRow)

    def tearDown(self):
        self.assertEqual(all_asked(self.desk, 1, ["ann", "bob", "cid"]), self.kept)

    def test_what_is_no_text(self):
        for thing in NO_TEXTS + [["pair"], ("pair",), [["pair"]], ["enter", "dan"], ("here",), 10 ** 5000]:
            self.no_row(thing)

    def test_what_begins_with_no_word_of_a_row(self):
        for row in ["", " ", "  ", "x", "Pair", "PAIR", "pairs", "pai", "hear", "names", "enter,dan", "?", "~", "none",
                    "ok", "name", "number", "guests", "reason", "turns", "0", "1 2", "ann", "-", ";", "why?", "\n",
                    "tell\t0\t1", "pair\n", "enter\tdan"]:
            self.no_row(row)

    def test_blanks_at_an_end(self):
        for word in ALONE:
            for row in [" " + word, word + " ", " " + word + " ", word + "  "]:
                self.no_row(row)
        for row in [" enter dan", "enter dan ", " leave ann", "leave ann ", " back ann", "card ann ", " card ann",
                    " turn 0", "turn 0 ", " tell 0 1", "tell 0 1 ", "amend 0 0 1 ", " amend 0 0 1"]:
            self.no_row(row)

    def test_two_blanks_side_by_side(self):
        for row in ["enter  dan", "leave  ann", "back  ann", "card  ann", "turn  0", "tell  0 1", "tell 0  1",
                    "amend  0 0 1", "amend 0  0 1", "amend 0 0  1", "enter  ", "card  "]:
            self.no_row(row)

    def test_a_name_without_signs(self):
        for word, error in [("enter", NoName), ("leave", NoGuest), ("back", NoGuest), ("card", NoGuest)]:
            self.refused(self.desk, word + " ", error)

    def test_too_few_or_too_many_words(self):
        for word in NAMED:
            for row in [word, word + " ann bob", word + " ann bob cid"]:
                self.no_row(row)
        for word in ALONE:
            for row in [word + " ann", word + " 0", word + " " + word, word + " 0 0"]:
                self.no_row(row)
        for word, count in NUMBERED.items():
            for number in range(6):
                if number != count:
                    self.no_row(word + " 0" * number)

    def test_a_word_that_is_no_number(self):
        for word, count in NUMBERED.items():
            for wrong in NO_NUMBERS:
                for place in range(count):
                    words = ["0"] * count
                    words[place] = wrong
                    self.no_row(" ".join([word] + words))

    def test_no_row_goes_ahead_of_what_the_house_refuses(self):
        for row in ["tell 9 x", "tell x 9", "tell 9 01", "amend 9 9 -1", "amend 9 x 9", "amend 0 0 01", "tell 0 -1"]:
            self.no_row(row)

    def test_numbers_of_up_to_sixty_figures(self):
        for figures in [1, 2, 59, 60]:
            for number in ["9" * figures, "1" + "0" * (figures - 1)]:
                self.refused(self.desk, "tell " + number + " 1", NoTable)
                self.refused(self.desk, "turn " + number, NoTable)
                self.refused(self.desk, f"amend {number} {number} {number}", NoTable)
        for number in ["3", "10", "9" * 60, "1" + "0" * 59]:
            self.refused(self.desk, "tell 0 " + number, NoResult)
        self.no_row("turn " + "9" * 61)


def table_text(table):
    window, door, won = table
    return window if door == "" else f"{window} {door}" if won is None else f"{window} {door} {won}"


def why_text(reason):
    names = [name or "-" for name in reason[0]]
    kind, pairing, prices, groups = reason[2]
    text = f"{worth_of(reason[1], pairing)}; "
    text += " ".join(f"{name} {price}" for name, price in zip(names, prices))
    for places, price in groups:
        text += "; " + " ".join(names[place] for place in places) + f" {price}"
    return text


def card_text(kept):
    name, points, sides, met, rested, tables = kept
    words = [str(points), sides or "-"] + ["rested"] * rested + list(met)
    return " ".join(words)


class BesideAHouse(AtDesk):
    """A desk and a house to which the same is done: what the one says is what the other tells."""

    def same(self, desk, house, row, ask, *things):
        """The same refusal, or none; the answer of the house is told, None where it was refused."""
        try:
            told = ask(*things)
        except RollError as error:
            taken = self.refused(desk, row, type(error))
            self.assertEqual(getattr(taken, "names", None), getattr(error, "names", None))
            return None
        if row == "pair":
            self.said(desk, row, "; ".join(table_text(table) for table in told))
        else:
            self.said(desk, row, "ok")
        return told

    def compared(self, desk, house):
        guests = house.guests()
        here = [name for name, is_here in guests if is_here]
        self.said(desk, "here", " ".join(here) or "none")
        rows = [f"{name} {points} {faced}" for name, points, faced in house.standing()]
        self.said(desk, "standing", "; ".join(rows) or "none")
        for name, is_here in guests:
            self.said(desk, "card " + name, card_text(house.card(name)))
        for number, turn in enumerate(house.turns()):
            self.said(desk, f"turn {number}", "; ".join(table_text(table) for table in turn))
        self.said(desk, "why", "none" if house.reason() is None else why_text(house.reason()))

    def some_step(self, desk, house, names, chance):
        name = chance.choice(names)
        word = chance.choice(["enter", "leave", "back", "tell", "amend", "pair"])
        turn, table, won = [chance.randrange(4) for number in range(3)]
        if word in NAMED:
            ask = {"enter": house.enter, "leave": house.leave, "back": house.back}[word]
            self.same(desk, house, f"{word} {name}", ask, name)
        elif word == "tell":
            self.same(desk, house, f"tell {table} {won}", house.tell, table, won)
        elif word == "amend":
            self.same(desk, house, f"amend {turn} {table} {won}", house.amend, turn, table, won)
        else:
            self.same(desk, house, "pair", house.pair)

    def test_steps_of_every_kind(self):
        chance = random.Random(331)
        for number in range(20):
            desk, house = Desk(), House()
            names = list("abcdefg")[:chance.randrange(1, 8)] + ["", "A"]
            for step in range(80):
                self.some_step(desk, house, names, chance)
                if step % 8 == 0:
                    self.compared(desk, house)
            self.compared(desk, house)

    def test_many_turns(self):
        chance = random.Random(332)
        groups = chairs = 0
        for n in [7, 8, 12, 13, 21, 40]:
            desk, house = Desk(), House()
            for number in range(n):
                name = "abcdefghij"[number // 10] + "abcdefghij"[number % 10]
                self.same(desk, house, "enter " + name, house.enter, name)
            for number in range(12):
                if self.same(desk, house, "pair", house.pair) is not None:
                    groups += len(house.reason()[2][3])
                    chairs += len([places for places, price in house.reason()[2][3] if n in places])
                    for table in tables_of(house.turns()[-1]):
                        won = chance.choice([0, 1, 2])
                        self.same(desk, house, f"tell {table} {won}", house.tell, table, won)
                self.compared(desk, house)
        self.assertGreater(groups, 10)
        self.assertGreater(chairs, 0)


if __name__ == "__main__":
    unittest.main()

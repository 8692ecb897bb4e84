"""The interface: each name is there in its module, with its arguments as the document tells them."""

import importlib
import inspect
import unittest

FUNCTIONS = {
    "words": ["is_whole(thing)", "is_name(thing)"],
    "nets": ["vet(n, links)", "parts(n, links, out)", "odd_parts(n, links, out)", "is_pairing(n, links, some)",
             "is_full(n, links, some)"],
    "rings": ["rings(one, other)", "turned(one, other, places)"],
    "largest": ["largest(n, links)", "left_alone(n, links)"],
    "worths": ["worth(worries, pairing)", "shows(n, worries, told)"],
    "best": ["best(n, worries)"],
    "forced": ["forced(n, worries, link)", "barred(n, worries, link)"],
    "dealing": ["dealt(costs)"],
    "cards": ["card(turns, name)", "standing(turns, names)"],
    "wishes": ["lean(sides)", "bound(sides)", "wish(sides)", "may_meet(one, other)", "at_window(one, other, turn)"],
    "worries": ["worries(cards)", "table_costs(pairs)"],
    "everyone": ["everyone(names)"]}
METHODS = {
    "house.House": ["enter(self, name)", "leave(self, name)", "back(self, name)", "pair(self)",
                    "tell(self, table, won)", "amend(self, turn, table, won)", "guests(self)", "turns(self)",
                    "card(self, name)", "standing(self)", "reason(self)"],
    "desk.Desk": ["say(self, row)"]}


def signed(holder, row):
    """The row of a name as it stands in what holds it."""
    name = row.split("(")[0]
    return name + str(inspect.signature(getattr(holder, name)))


class Interface(unittest.TestCase):

    def test_functions(self):
        for module, rows in FUNCTIONS.items():
            holder = importlib.import_module("rollcall." + module)
            for row in rows:
                with self.subTest(module=module, row=row):
                    self.assertEqual(signed(holder, row), row)

    def test_classes(self):
        for path, rows in METHODS.items():
            module, name = path.split(".")
            made = getattr(importlib.import_module("rollcall." + module), name)
            self.assertEqual(str(inspect.signature(made)), "()")
            for row in rows:
                with self.subTest(path=path, row=row):
                    self.assertEqual(signed(made, row), row)


if __name__ == "__main__":
    unittest.main()

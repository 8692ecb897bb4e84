"""Columns dealt out to rows, and the numbers that show it (16); what is told is the asker's own (2)."""

import copy
import itertools
import random
import unittest

from rollcall.dealing import dealt
from samples import Case, least_sum, sum_at

BIG = 10 ** 60 - 1


def some_costs(m, low, high, chance):
    return [[chance.randint(low, high) for column in range(m)] for row in range(m)]


def hidden(places, inside, outside):
    """Costs that are inside at the places, outside elsewhere."""
    m = len(places)
    return [[inside if places[row] == column else outside for column in range(m)] for row in range(m)]


class Checked(Case):

    def checked(self, costs):
        kept = copy.deepcopy(costs)
        told = dealt(costs)
        self.assertEqual(costs, kept)
        self.dealing_holds(costs, told)
        return told

    def least(self, costs):
        self.assertEqual(sum_at(costs, self.checked(costs)[0]), least_sum(costs), costs)


class FewRows(Checked):

    def test_no_rows(self):
        self.assertEqual(dealt([]), ([], [], []))

    def test_one_row(self):
        for cost in [0, 1, -1, 7, BIG, -BIG]:
            places, ones, others = self.checked([[cost]])
            self.assertEqual(places, [0])
            self.assertEqual(ones[0] + others[0], cost)

    def test_ordinary_ones(self):
        self.assertEqual(self.checked([[1, 2], [2, 1]])[0], [0, 1])
        self.assertEqual(self.checked([[2, 1], [1, 2]])[0], [1, 0])
        self.assertEqual(self.checked([[1, 2], [1, 9]])[0], [1, 0])
        self.assertEqual(self.checked([[4, 1, 3], [2, 0, 5], [3, 2, 2]])[0], [1, 0, 2])
        self.assertEqual(self.checked([[1, 2, 3], [2, 4, 6], [3, 6, 9]])[0], [2, 1, 0])

    def test_the_cheapest_of_a_row_is_not_always_its_place(self):
        self.assertEqual(self.checked([[0, 1, 9], [0, 9, 1], [0, 9, 9]])[0], [1, 2, 0])
        self.assertEqual(self.checked([[1, 2, 9, 9], [1, 9, 3, 9], [1, 9, 9, 4], [1, 9, 9, 9]])[0], [1, 2, 3, 0])

    def test_a_row_that_comes_late_moves_all_others(self):
        # Each row has its column already when the last one comes, which can go to the first column alone.
        for m in range(2, 21):
            costs = [[0 if column in (row, row + 1) else 5 for column in range(m)] for row in range(m - 1)]
            costs.append([0] + [5] * (m - 1))
            self.assertEqual(self.checked(costs)[0], list(range(1, m)) + [0])

    def test_every_table_of_two_rows(self):
        for numbers in itertools.product(range(-2, 3), repeat=4):
            self.least([list(numbers[:2]), list(numbers[2:])])

    def test_every_table_of_three_rows(self):
        for low in [0, -1]:
            for numbers in itertools.product([low, low + 1], repeat=9):
                self.least([list(numbers[:3]), list(numbers[3:6]), list(numbers[6:])])

    def test_against_all_ways_of_dealing(self):
        chance = random.Random(161)
        for number in range(200):
            m = chance.randrange(1, 6)
            low, high = chance.choice([(0, 1), (0, 3), (-2, 2), (-9, -1), (-50, 50), (-BIG, BIG), (BIG - 3, BIG)])
            self.least(some_costs(m, low, high, chance))
        for number in range(10):
            self.least(some_costs(6, -4, 4, chance))
            self.least(some_costs(6, -BIG, BIG, chance))
        self.least(some_costs(7, 0, 9, chance))

    def test_costs_alike(self):
        for cost in [0, 1, -1, 3, -3, BIG, -BIG]:
            for m in range(1, 6):
                told = self.checked([[cost] * m for row in range(m)])
                self.assertEqual(sum_at([[cost] * m] * m, told[0]), m * cost)

    def test_one_list_as_each_row(self):
        row = [3, -1, 4, 1]
        self.checked([row, row, row, row])
        self.assertEqual(row, [3, -1, 4, 1])

    def test_costs_of_sixty_figures(self):
        self.assertEqual(self.checked([[BIG, -BIG], [BIG, BIG]])[0], [1, 0])
        self.assertEqual(self.checked([[BIG, BIG - 1], [BIG, BIG]])[0], [1, 0])
        self.assertEqual(self.checked([[-BIG, 1 - BIG], [1 - BIG, 1 - BIG]])[0], [0, 1])
        self.assertEqual(self.checked([[-BIG, -BIG], [1 - BIG, -BIG]])[0], [0, 1])


class ManyRows(Checked):

    def test_twenty_rows_and_more(self):
        chance = random.Random(162)
        for m in [19, 20, 21, 25, 30]:
            for low, high in [(0, 1), (0, 4), (-3, 3), (0, 40), (-1000, 1000), (-BIG, BIG), (BIG - 9, BIG)]:
                self.checked(some_costs(m, low, high, chance))

    def test_costs_alike(self):
        for cost in [0, 7, -7, BIG, -BIG]:
            self.checked([[cost] * 20 for row in range(20)])

    def test_costs_that_grow(self):
        for m in [20, 23]:
            numbers = range(m)
            places = self.checked([[row * column for column in numbers] for row in numbers])[0]
            self.assertEqual(places, list(reversed(numbers)))
            places = self.checked([[-row * column for column in numbers] for row in numbers])[0]
            self.assertEqual(places, list(numbers))
            places = self.checked([[(row - column) ** 2 * BIG for column in numbers] for row in numbers])[0]
            self.assertEqual(places, list(numbers))
            self.checked([[row + column for column in numbers] for row in numbers])

    def test_the_only_way_is_found(self):
        chance = random.Random(163)
        for m in [5, 20, 22]:
            for inside, outside in [(0, 1), (-1, 0), (BIG - 1, BIG), (-BIG, BIG), (-BIG, 1 - BIG)]:
                wanted = list(range(m))
                chance.shuffle(wanted)
                self.assertEqual(self.checked(hidden(wanted, inside, outside))[0], wanted)

    def test_few_cheap_places(self):
        # A row has two or three cheap columns, so that rows come that move many others.
        chance = random.Random(164)
        for number in range(30):
            costs = [[9 for column in range(20)] for row in range(20)]
            for row in costs:
                for column in chance.sample(range(20), chance.choice([2, 3])):
                    row[column] = chance.randrange(3)
            self.checked(costs)

    def test_how_often_guests_sat_at_tables(self):
        chance = random.Random(165)
        for number in range(20):
            costs = [[0] * 20 for row in range(20)]
            for row in costs:
                for sat in range(chance.randrange(0, 60)):
                    row[chance.randrange(20)] += 1
            self.checked(costs)


class OnesOwn(Checked):

    def test_a_change_of_what_was_told_changes_nothing_later(self):
        for costs in [[], [[4]], [[1, 2], [2, 1]], [[0, 1, 9], [0, 9, 1], [0, 9, 9]]]:
            wanted = sum_at(costs, dealt(costs)[0])
            for numbers in dealt(costs):
                numbers.insert(0, 8)
                numbers.append(9)
                self.assertEqual(sum_at(costs, self.checked(costs)[0]), wanted)

    def test_each_list_is_one_of_its_own(self):
        for costs in [[], [[0]], [[0, 0], [0, 0]]]:
            for number in range(3):
                told = dealt(costs)
                kept = copy.deepcopy(told)
                told[number].append(7)
                for other in range(3):
                    self.assertEqual(told[other] == kept[other], other != number)

    def test_a_change_of_what_was_handed_in_changes_nothing_later(self):
        costs = [[1, 2], [2, 1]]
        told = dealt(costs)
        kept = copy.deepcopy(told)
        costs[0][0] = 50
        costs[1].append(3)
        costs.append([])
        self.assertEqual(told, kept)
        self.assertEqual(self.checked([[1, 2], [2, 1]])[0], [0, 1])
        self.assertEqual(self.checked([[50, 2], [2, 1]])[0], [1, 0])


if __name__ == "__main__":
    unittest.main()

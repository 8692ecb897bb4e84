"""Columns dealt out to rows at the least cost, with numbers of the rows and of the columns that show it."""


class Deal:

    def __init__(self, costs):
        # With its least cost as a row's number, and 0 as each column's, no two of them are above the cost at first.
        self.costs = costs
        self.ones = [min(row) for row in costs]
        self.others = [0 for row in costs]
        self.places = [None for row in costs]
        self.takers = [None for row in costs]

    def gap_at(self, row, column):
        return self.costs[row][column] - self.ones[row] - self.others[column]

    def nearest(self, rows, came):
        least = None
        for column in range(len(self.costs)):
            if column not in came:
                for row in rows:
                    gap = self.gap_at(row, column)
                    if least is None or gap < least[0]:
                        least = (gap, row, column)
        return least

    def shift(self, rows, came, gap):
        # What a row and a column that are both reached come to stays, and no other two gain more than the least gap.
        for row in rows:
            self.ones[row] += gap
        for column in came:
            self.others[column] -= gap

    def seat(self, row):
        # Each column reached is taken, and its taker is reached, too, till one is free: there is one for each row left.
        rows = []
        came = {}
        column = None
        taker = row
        while taker is not None:
            rows.append(taker)
            least = self.nearest(rows, came)
            self.shift(rows, came, least[0])
            column = least[2]
            came[column] = least[1]
            taker = self.takers[column]
        self.hand_on(came, column)

    def hand_on(self, came, column):
        # Each row on the way back takes the column that was reached from it, and leaves its own to the one ahead.
        while column is not None:
            row = came[column]
            left = self.places[row]
            self.places[row] = column
            self.takers[column] = row
            column = left


def dealt(costs):
    deal = Deal(costs)
    for row in range(len(costs)):
        deal.seat(row)
    return (deal.places, deal.ones, deal.others)

"""The cards of the guests by the turns, and their standing."""


def is_rest(table):
    return table[1] == ""


def is_at(table, name):
    return table[0] == name or table[1] == name


def points_at(table, name):
    if table[2] is None:
        return 0
    return table[2] if table[0] == name else 2 - table[2]


def side_at(table, name):
    return "w" if table[0] == name else "d"


def other_at(table, name):
    return table[1] if table[0] == name else table[0]


def rows_of(turns, name):
    # Turn by turn the guest's table, or rest, with its number ahead.
    rows = []
    for turn in turns:
        for number, table in enumerate(turn):
            if is_at(table, name):
                rows.append((number, table))
    return rows


def card(turns, name):
    rows = rows_of(turns, name)
    meetings = [(number, table) for number, table in rows if not is_rest(table)]
    points = sum([points_at(table, name) for number, table in rows])
    sides = "".join([side_at(table, name) for number, table in meetings])
    met = tuple([other_at(table, name) for number, table in meetings])
    rested = len(meetings) < len(rows)
    tables = tuple([number for number, table in meetings])
    return (name, points, sides, met, rested, tables)


def all_points(turns):
    # Once for everybody: a card for each one that each guest has met would walk through all turns each time.
    points = {}
    for turn in turns:
        for table in turn:
            for name in table[:2]:
                points[name] = points.get(name, 0) + points_at(table, name)
    return points


def standing(turns, names):
    points = all_points(turns)
    rows = []
    for name in names:
        own = card(turns, name)
        rows.append((name, own[1], sum([points[other] for other in own[3]])))
    # Sorting leaves alike ones as they stand in the list of names.
    return sorted(rows, key=lambda row: (-row[1], -row[2]))

"""A plan by which all meet each other just once, each as often at the window as at the door, or once more on one."""


def circle_turn(names, number):
    # The names, odd in number, stand in a circle: the one of the turn's number is left over, and those who are as far
    # behind it as ahead of it meet. Over all turns each is as often behind as ahead, so the sides come out alike.
    count = len(names)
    turn = []
    for far in range(1, count // 2 + 1):
        turn.append((names[(number + far) % count], names[(number - far) % count]))
    return turn


def left_turn(name, last, number):
    # By the circle all sit as often on either side, so one meeting more may be on any; only the last name, who is in
    # no circle, has to change sides turn by turn.
    return [(last, name)] if number % 2 == 0 else [(name, last)]


def everyone(names):
    if len(names) % 2 == 1:
        return [circle_turn(names, number) for number in range(len(names))]
    circle = names[:-1]
    told = []
    for number, name in enumerate(circle):
        told.append(circle_turn(circle, number) + left_turn(name, names[-1], number))
    return told

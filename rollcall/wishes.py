"""The sides on which guests sat, and what follows: their wishes, who may meet, and who sits at the window."""


def lean(sides):
    return sides.count("w") - sides.count("d")


def bound(sides):
    if lean(sides) >= 2:
        return "d"
    if lean(sides) <= -2:
        return "w"
    if sides.endswith("ww"):
        return "d"
    if sides.endswith("dd"):
        return "w"
    return ""


def wish(sides):
    if bound(sides) != "":
        return bound(sides)
    if sides == "":
        return ""
    if lean(sides) != 0:
        return "d" if lean(sides) > 0 else "w"
    return "d" if sides.endswith("w") else "w"


def may_meet(one, other):
    if one[0] in other[3] or other[0] in one[3]:
        return False
    return bound(one[2]) == "" or bound(one[2]) != bound(other[2])


def gets_the_wish(one, other):
    # Of two cards whose wishes are alike: whether the first one's is kept to.
    bound_one = bound(one[2]) != ""
    bound_other = bound(other[2]) != ""
    if bound_one != bound_other:
        return bound_one
    return abs(lean(one[2])) >= abs(lean(other[2]))


def at_window(one, other, turn):
    first = wish(one[2])
    second = wish(other[2])
    if first != second:
        return first == "w" or second == "d"
    if first == "":
        return turn % 2 == 0
    # With the wish d it is the one who doesn't get it that sits at the window.
    return gets_the_wish(one, other) == (first == "w")

"""What counts as a whole number, and what as a name."""

LETTERS = "abcdefghijklmnopqrstuvwxyz"
MOST_LETTERS = 12


def is_whole(thing):
    # To Python a truth is an int, too.
    return isinstance(thing, int) and not isinstance(thing, bool)


def is_name(thing):
    if not isinstance(thing, str):
        return False
    if len(thing) < 1 or len(thing) > MOST_LETTERS:
        return False
    return all([sign in LETTERS for sign in thing])

"""The refusals of the program, a class for each."""


class RollError(ValueError):
    pass


class NoName(RollError):
    pass


class NoGuest(RollError):
    pass


class NoNet(RollError):
    pass


class NoTable(RollError):
    pass


class NoResult(RollError):
    pass


class NotTold(RollError):
    pass


class Told(RollError):
    pass


class TooFew(RollError):
    pass


class Hindered(RollError):

    # Names may be none: where nobody is taken out there may be odd parts all the same.
    def __init__(self, names=None):
        # A copy, so that a later change of the list handed in doesn't reach the error.
        self.names = [] if names is None else list(names)


class NoRow(RollError):
    pass

"""The refusals of the program, one class each."""


class WharfError(ValueError):
    pass


class NoTable(WharfError):
    pass


class NoHouse(WharfError):
    pass


class NoDeed(WharfError):
    pass


class NoLetter(WharfError):
    pass


class NoStand(WharfError):
    pass


class NoRoad(WharfError):
    pass


class NoPlan(WharfError):
    pass


class NoBook(WharfError):
    pass


class NoManner(WharfError):
    pass


class TooMany(WharfError):
    pass


class NoText(WharfError):
    pass


class NoRow(WharfError):
    pass


class NoName(WharfError):
    pass


class Short(WharfError):
    def __init__(self, had):
        # The words leave the number out: Python refuses to write out very long ones.
        WharfError.__init__(self, "the house has fewer rights than that")
        self.had = had

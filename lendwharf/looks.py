"""Looks at numbers and rows of things that several modules share."""


def is_whole(thing):
    # True and False are ints for Python, but no whole numbers here.
    return isinstance(thing, int) and not isinstance(thing, bool)


def is_between(thing, least, most):
    return is_whole(thing) and least <= thing <= most


def is_rising(things):
    return all([one < other for one, other in zip(things, things[1:])])

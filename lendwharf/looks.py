"""Looks at numbers, words and rows of things that several modules share."""

MOST_SIGNS_OF_WORD = 8


def is_whole(thing):
    # True and False are ints for Python, but no whole numbers here.
    return isinstance(thing, int) and not isinstance(thing, bool)


def is_between(thing, least, most):
    return is_whole(thing) and least <= thing <= most


def is_rising(things):
    return all([one < other for one, other in zip(things, things[1:])])


def is_sized_tuple(thing, least, most):
    return isinstance(thing, tuple) and least <= len(thing) <= most


def is_word(thing):
    if not isinstance(thing, str) or not 1 <= len(thing) <= MOST_SIGNS_OF_WORD:
        return False
    return all(["a" <= sign <= "z" for sign in thing])

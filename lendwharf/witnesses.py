"""Books of witnesses: where deeds can still be good, who is sure of them, what a book bears."""

from lendwharf.errors import NoBook, NoHouse
from lendwharf.looks import is_between, is_rising, is_sized_tuple

MOST_HOUSES_OF_BOOK = 9


def are_rising_houses(n, thing):
    if not isinstance(thing, tuple):
        return False
    return all([is_between(house, 0, n - 1) for house in thing]) and is_rising(thing)


def is_group(n, thing):
    return are_rising_houses(n, thing) and len(thing) > 0


def are_sets(n, thing):
    if not isinstance(thing, tuple) or len(thing) == 0:
        return False
    return all([is_group(n, part) for part in thing]) and is_rising(thing)


def is_book(thing):
    if not is_sized_tuple(thing, 2, 2):
        return False
    return is_between(thing[0], 1, MOST_HOUSES_OF_BOOK) and are_sets(thing[0], thing[1])


def need_book(book):
    if not is_book(book):
        raise NoBook("this is no book")


def need_gone(book, gone):
    need_book(book)
    if not are_rising_houses(book[0], gone):
        raise NoHouse("no rising houses of this book")


def need_pool_of_book(book, pool):
    need_book(book)
    if not is_group(book[0], pool):
        raise NoHouse("no pool of houses of this book")


def meets(houses, one):
    return any([house in one for house in houses])


def set_without(book, houses):
    for one in book[1]:
        if not meets(houses, one):
            return one
    return None


def set_within(book, houses):
    for one in book[1]:
        if all([house in houses for house in one]):
            return one
    return None


def free_set(book, gone):
    need_gone(book, gone)
    return set_without(book, gone)


def unmet_set(book, pool):
    need_pool_of_book(book, pool)
    return set_without(book, pool)


def is_stuck(book, gone):
    need_gone(book, gone)
    return set_without(book, gone) is None


def is_blind(book, gone, one):
    need_gone(book, gone)
    return one in book[1] and all([house in gone for house in one])


def groups_of(n, size):
    # Each group of one more house is a smaller one with a later house behind it.
    groups = [()]
    for times in range(size):
        longer = []
        for group in groups:
            longer.extend([group + (house,) for house in range(n) if len(group) == 0 or house > group[-1]])
        groups = longer
    return groups


def paper_of(book, f):
    for gone in groups_of(book[0], f):
        if set_without(book, gone) is None:
            return ("stuck", gone)
        # The others are sure just where the gone ones don't have all of a set.
        unmet = set_within(book, gone)
        if unmet is not None:
            return ("blind", gone, unmet)
    return ("bears", f)


def bears(book, f):
    need_book(book)
    return paper_of(book, f)


def most_borne(book):
    need_book(book)
    f = 0
    while paper_of(book, f + 1)[0] == "bears":
        f += 1
    return (f, paper_of(book, f + 1))

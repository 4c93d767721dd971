"""What a pool may use of what houses had that are gone for ever."""

from lendwharf.comes import need_comes_about
from lendwharf.errors import NoBook, NoHouse
from lendwharf.views import may_use
from lendwharf.witnesses import need_book, need_gone, need_pool_of_book, unmet_set


def need_book_of_table(book, table):
    need_book(book)
    # What is no tuple has no houses that could be others: it is left to NoTable.
    if isinstance(table, tuple) and book[0] != len(table):
        raise NoBook("the houses of this book are not those of the table")


def need_heirs(book, pool, gone):
    need_pool_of_book(book, pool)
    need_gone(book, gone)
    if any([house in gone for house in pool]):
        raise NoHouse("a house of the pool is gone")


def heirs_may(book, table, pool, gone, k):
    need_book_of_table(book, table)
    need_comes_about(table)
    need_heirs(book, pool, gone)
    unmet = unmet_set(book, pool)
    if unmet is not None:
        return ("blind", unmet)
    return may_use(table, tuple(sorted(pool + gone)), k)

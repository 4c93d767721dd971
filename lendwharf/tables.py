"""Tables of rights: what each house ever made, lent and used."""

from lendwharf.errors import NoHouse, NoTable
from lendwharf.looks import is_between, is_whole

MOST_HOUSES = 8


def is_row(thing, n):
    if not isinstance(thing, tuple) or len(thing) != n + 1:
        return False
    return all([is_whole(part) and part >= 0 for part in thing])


def is_table(thing):
    if not isinstance(thing, tuple) or not 1 <= len(thing) <= MOST_HOUSES:
        return False
    return all([is_row(row, len(thing)) for row in thing])


def bare(n):
    row = (0,) * (n + 1)
    return (row,) * n


def is_house(table, thing):
    return is_between(thing, 0, len(table) - 1)


def rights(table, house):
    if not is_house(table, house):
        raise NoHouse("no house of this table")
    # Its column holds what was lent to it and, at its own row, what it made.
    gained = sum([row[house] for row in table])
    own = table[house]
    spent = sum(own) - own[house]
    return gained - spent


def stock(table):
    made = sum([row[house] for house, row in enumerate(table)])
    used = sum([row[-1] for row in table])
    return made - used


def need_as_many_houses(one, other):
    if len(one) != len(other):
        raise NoTable("the tables have unlike numbers of houses")


def is_row_within(one, other):
    return all([mine <= its for mine, its in zip(one, other)])


def is_within(one, other):
    need_as_many_houses(one, other)
    return all([is_row_within(mine, its) for mine, its in zip(one, other)])


def joined_row(one, other):
    return tuple([max(mine, its) for mine, its in zip(one, other)])


def joined(one, other):
    need_as_many_houses(one, other)
    return tuple([joined_row(mine, its) for mine, its in zip(one, other)])

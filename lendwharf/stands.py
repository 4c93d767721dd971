"""Stands: the tables of all houses, what they hold and what is on the way."""

from lendwharf.errors import NoHouse, NoStand
from lendwharf.tables import is_house, is_table, is_within, rights


def own_rows(tables):
    return tuple([table[house] for house, table in enumerate(tables)])


def is_stand(tables):
    if not isinstance(tables, list) or len(tables) == 0:
        return False
    if not all([is_table(table) and len(table) == len(tables) for table in tables]):
        return False
    # Of each house nobody knows more than the house itself.
    return all([is_within(table, own_rows(tables)) for table in tables])


def need_stand(tables):
    if not is_stand(tables):
        raise NoStand("these tables are no stand")


def whole(tables):
    need_stand(tables)
    return own_rows(tables)


def going(tables, i, j):
    return tables[i][i][j] - tables[j][i][j]


def on_the_way(tables, i, j):
    need_stand(tables)
    if not is_house(tables, i) or not is_house(tables, j) or i == j:
        raise NoHouse("a way leads from one house of the stand to another")
    return going(tables, i, j)


def held(tables):
    need_stand(tables)
    return [rights(table, house) for house, table in enumerate(tables)]


def coming_to(tables, house):
    return sum([going(tables, other, house) for other in range(len(tables)) if other != house])


def account(tables):
    had = held(tables)
    if min(had) < 0:
        raise NoStand("a house holds less than nothing")
    coming = [coming_to(tables, house) for house in range(len(tables))]
    return [(now, later, now + later) for now, later in zip(had, coming)]

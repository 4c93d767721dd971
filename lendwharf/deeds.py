"""Deeds: makings, lendings and usings, done to a table."""

from lendwharf.errors import NoDeed, NoHouse, Short
from lendwharf.looks import is_whole
from lendwharf.tables import is_house, rights

PARTS_OF_DEED = {"make": 3, "lend": 4, "use": 3}


def is_text_and_numbers(thing):
    if not isinstance(thing, tuple) or len(thing) == 0 or not isinstance(thing[0], str):
        return False
    return all([is_whole(part) for part in thing[1:]])


def is_deed(thing):
    return is_text_and_numbers(thing) and len(thing) == PARTS_OF_DEED.get(thing[0]) and thing[-1] >= 1


def need_houses_of_deed(table, deed):
    houses = deed[1:-1]
    if not all([is_house(table, house) for house in houses]):
        raise NoHouse("no house of this table")
    if deed[0] == "lend" and houses[0] == houses[1]:
        raise NoHouse("a house lends nothing to itself")


def place_in_row(table, deed):
    if deed[0] == "make":
        return deed[1]
    if deed[0] == "lend":
        return deed[2]
    return len(table)


def raised(table, house, place, k):
    row = table[house]
    higher = row[:place] + (row[place] + k,) + row[place + 1:]
    return table[:house] + (higher,) + table[house + 1:]


def done(table, deed):
    if not is_deed(deed):
        raise NoDeed("neither a making nor a lending nor a using of one right or more")
    need_houses_of_deed(table, deed)
    house = deed[1]
    k = deed[-1]
    if deed[0] != "make":
        had = rights(table, house)
        if had < k:
            raise Short(had)
    return raised(table, house, place_in_row(table, deed), k)

"""Tables that come about: their roots, and the steps that lead to them."""

from lendwharf.deeds import raised
from lendwharf.errors import NoTable, TooMany
from lendwharf.looks import is_rising
from lendwharf.tables import is_house, is_table, rights

MOST_STEPS = 300


def made_some(table, house):
    return table[house][house] > 0


def lent_or_used_some(table, house):
    row = table[house]
    return sum(row) > row[house]


def was_lent_some(table, house, lenders):
    return any([table[lender][house] > 0 for lender in lenders if lender != house])


def has_root(table, house, ahead):
    return made_some(table, house) or was_lent_some(table, house, ahead)


def rooted_houses(table):
    roots = []
    grows = True
    while grows:
        others = [house for house in range(len(table)) if house not in roots]
        found = [house for house in others if has_root(table, house, roots)]
        roots.extend(found)
        grows = len(found) > 0
    return roots


def rootless_houses(table):
    roots = rooted_houses(table)
    others = [house for house in range(len(table)) if house not in roots]
    if any([lent_or_used_some(table, house) for house in others]):
        return others
    return []


def comes_about(table):
    for house in range(len(table)):
        if rights(table, house) < 0:
            return ("short", house)
    rootless = rootless_houses(table)
    if len(rootless) > 0:
        return ("rootless", rootless)
    return ("comes", rooted_houses(table))


def does_come_about(thing):
    return is_table(thing) and comes_about(thing)[0] == "comes"


def need_comes_about(thing):
    if not does_come_about(thing):
        raise NoTable("no table that comes about")


def are_houses(table, houses):
    return all([is_house(table, house) for house in houses])


def is_root_list(table, houses):
    if not are_houses(table, houses) or len(set(houses)) != len(houses):
        return False
    idle = [house for house in range(len(table)) if house not in houses]
    if any([lent_or_used_some(table, house) for house in idle]):
        return False
    return all([has_root(table, house, houses[:place]) for place, house in enumerate(houses)])


def are_rootless(table, houses):
    if not are_houses(table, houses) or not is_rising(houses):
        return False
    outside = [house for house in range(len(table)) if house not in houses]
    if any([has_root(table, house, outside) for house in houses]):
        return False
    return any([lent_or_used_some(table, house) for house in houses])


def open_places(rest):
    places = []
    for house, row in enumerate(rest):
        if made_some(rest, house):
            places.extend([(house, place) for place in range(len(row)) if place != house and row[place] > 0])
    return places


def rest_behind(rest, house, place):
    behind = raised(raised(rest, house, house, -1), house, place, -1)
    if place == len(rest):
        return behind
    return raised(behind, place, place, 1)


def next_place(rest):
    # A right lent too early may leave a ring of lendings without any: each step is looked ahead.
    for house, place in open_places(rest):
        if len(rootless_houses(rest_behind(rest, house, place))) == 0:
            return (house, place)
    return None


def step_at(rest, house, place):
    if place == len(rest):
        return ("use", house, 1)
    return ("lend", house, place, 1)


def steps(table):
    need_comes_about(table)
    if sum([sum(row) for row in table]) > MOST_STEPS:
        raise TooMany("more steps than are told")
    told = []
    for house, row in enumerate(table):
        told.extend([("make", house, 1)] * row[house])
    # With all makings done, the rest is a table too: at its own place a house has the rights
    # it now has, at the others what it has still to lend or use.
    rest = table
    at = next_place(rest)
    while at is not None:
        told.append(step_at(rest, at[0], at[1]))
        rest = rest_behind(rest, at[0], at[1])
        at = next_place(rest)
    return told

"""What a pool of houses knows: whether it may use, or a world in which it is too much."""

from lendwharf.comes import are_houses, does_come_about, need_comes_about
from lendwharf.deeds import raised
from lendwharf.errors import NoHouse
from lendwharf.looks import is_rising
from lendwharf.tables import is_within, rights, stock


def is_pool(table, thing):
    if not isinstance(thing, tuple) or len(thing) == 0:
        return False
    return are_houses(table, thing) and is_rising(thing)


def need_pool(table, pool):
    need_comes_about(table)
    if not is_pool(table, pool):
        raise NoHouse("no pool of houses of this table")


def rights_of_pool(table, pool):
    return sum([rights(table, house) for house in pool])


def least_stock(table, pool):
    need_pool(table, pool)
    return rights_of_pool(table, pool)


def poorest_world(table, pool):
    # For all that the pool knows, the others may have used whatever they had.
    world = table
    for house in range(len(table)):
        if house not in pool:
            world = raised(world, house, len(table), rights(table, house))
    return world


def may_use(table, pool, k):
    need_pool(table, pool)
    had = rights_of_pool(table, pool)
    if had >= k:
        return ("may", had)
    return ("must", poorest_world(table, pool))


def is_world(table, pool, world):
    need_pool(table, pool)
    if not does_come_about(world) or len(world) != len(table):
        return False
    return is_within(table, world) and all([world[house] == table[house] for house in pool])


def shows_must(table, pool, k, world):
    return is_world(table, pool, world) and stock(world) < k

"""Points 2, 14 and 15: a pool, its worlds, and whether it may use."""

import random
import unittest

from lendwharf.errors import NoHouse, NoTable
from lendwharf.tables import bare, stock
from lendwharf.views import is_world, least_stock, may_use, shows_must

from tests.samples import (
    HUGE, NO_TABLES, all_that_come_about, grown_table, places_of, rights_by_the_words, subsets_of, with_number,
)

# Rights: 5, 1 and 1.
START = ((10, 4, 1, 0), (0, 0, 0, 3), (0, 0, 0, 0))
NOT_COMING_ABOUT = (((3, 4),), ((0, 5, 0), (5, 0, 0)), ((0, 0, 1), (0, 9, 0)))


def pools_of(n):
    return [tuple(houses) for houses in subsets_of(n) if houses]


def rights_of(table, pool):
    return sum(rights_by_the_words(table, house) for house in pool)


def is_world_by_the_words(table, pool, world, coming):
    """Point 14, with coming as all small tables that come about."""
    if world not in coming or len(world) != len(table):
        return False
    for house, place in places_of(len(table)):
        if world[house][place] < table[house][place]:
            return False
    return all(world[house] == table[house] for house in pool)


def calls_with(table, pool):
    return (
        lambda: may_use(table, pool, 1),
        lambda: is_world(table, pool, table),
        lambda: shows_must(table, pool, 1, table),
        lambda: least_stock(table, pool),
    )


class MayUse(unittest.TestCase):
    def assert_told(self, table, pool, k):
        told = may_use(table, pool, k)
        self.assertIsInstance(told, tuple)
        had = rights_of(table, pool)
        if had >= k:
            self.assertEqual(told, ("may", had))
            return
        self.assertEqual(told[0], "must")
        world = told[1]
        self.assertEqual(len(told), 2)
        self.assertIs(is_world(table, pool, world), True)
        self.assertIs(shows_must(table, pool, k, world), True)
        self.assertLess(stock(world), k)
        for house, place in places_of(len(table)):
            self.assertGreaterEqual(world[house][place], table[house][place])
        for house in range(len(table)):
            self.assertGreaterEqual(rights_by_the_words(world, house), 0)
            if house in pool:
                self.assertEqual(world[house], table[house])

    def test_at_below_and_above_the_pools_rights(self):
        for pool in pools_of(3):
            had = rights_of(START, pool)
            for k in (1, had - 1, had, had + 1, had + 2, 7, 8, HUGE):
                if k >= 1:
                    self.assert_told(START, pool, k)

    def test_one_house_some_and_all(self):
        self.assertEqual(may_use(START, (0,), 5), ("may", 5))
        self.assertEqual(may_use(START, (1, 2), 2), ("may", 2))
        self.assertEqual(may_use(START, (0, 1, 2), 7), ("may", 7))
        self.assertEqual(may_use(START, (0,), 6)[0], "must")
        self.assertEqual(may_use(START, (0, 1, 2), 8), ("must", START))
        self.assertEqual(may_use(((3, 1),), (0,), 2), ("may", 2))
        self.assertEqual(may_use(((3, 1),), (0,), 3), ("must", ((3, 1),)))

    def test_tables_of_chance(self):
        source = random.Random(31)
        for _ in range(60):
            n = source.randint(1, 8)
            table = grown_table(n, 25, source.choice([2, 10 ** 25]), source)
            for pool in source.sample(pools_of(n), min(5, 2 ** n - 1)):
                had = rights_of(table, pool)
                for k in (1, max(had, 1), had + 1, had + source.randint(1, 10 ** 25)):
                    self.assert_told(table, pool, k)

    def test_small_tables_and_their_worlds(self):
        coming = all_that_come_about(2, 2)
        for table in sorted(coming)[::3]:
            for pool in pools_of(2):
                for k in (1, 2, 3):
                    self.assert_told(table, pool, k)

    def test_amounts_below_one_are_not_refused(self):
        for k in (0, -1, -HUGE):
            self.assertEqual(may_use(START, (1,), k), ("may", 1))
            self.assertEqual(may_use(bare(2), (0,), k), ("may", 0))
            self.assertIs(shows_must(START, (1,), k, START), False)


class Worlds(unittest.TestCase):
    def test_by_the_words(self):
        coming = all_that_come_about(2, 2)
        tables = sorted(coming)
        for table in tables[::7]:
            for pool in pools_of(2):
                for world in tables[::2]:
                    awaited = is_world_by_the_words(table, pool, world, coming)
                    self.assertIs(is_world(table, pool, world), awaited)
                    for k in (0, 1, 2):
                        self.assertIs(shows_must(table, pool, k, world), awaited and stock(world) < k)

    def test_the_table_itself_is_a_world(self):
        for pool in pools_of(3):
            self.assertIs(is_world(START, pool, START), True)
            self.assertIs(shows_must(START, pool, 7, START), False)
            self.assertIs(shows_must(START, pool, 8, START), True)

    def test_others_may_have_done_more(self):
        world = with_number(START, 1, 3, 4)
        self.assertIs(is_world(START, (0, 2), world), True)
        self.assertIs(is_world(START, (0, 1), world), False)
        self.assertIs(is_world(START, (1,), world), False)
        self.assertIs(shows_must(START, (0, 2), 7, world), True)
        self.assertIs(shows_must(START, (0, 2), 6, world), False)

    def test_tables_that_are_no_worlds(self):
        below = with_number(START, 1, 3, 2)
        short = with_number(START, 1, 3, 5)
        ring = with_number(with_number(bare(3), 1, 2, 1), 2, 1, 1)
        self.assertIs(is_world(START, (0,), below), False)
        self.assertIs(is_world(START, (0,), short), False)
        self.assertIs(is_world(bare(3), (0,), ring), False)
        self.assertIs(shows_must(bare(3), (0,), 1, ring), False)
        self.assertIs(shows_must(START, (0,), HUGE, short), False)
        self.assertIs(shows_must(START, (0,), HUGE, below), False)

    def test_tables_of_another_number_of_houses(self):
        for n in (1, 2, 4, 8):
            for world in (bare(n), tuple((9,) * (n + 1) for _ in range(n))):
                self.assertIs(is_world(START, (0,), world), False)
                self.assertIs(shows_must(START, (0,), HUGE, world), False)
        self.assertIs(is_world(bare(3), (0,), bare(2)), False)
        self.assertIs(is_world(bare(2), (0,), bare(3)), False)


class LeastStock(unittest.TestCase):
    def test_the_pools_rights(self):
        self.assertEqual([least_stock(START, pool) for pool in pools_of(3)], [5, 1, 1, 6, 6, 2, 7])
        self.assertEqual(least_stock(((HUGE, 1),), (0,)), HUGE - 1)
        self.assertEqual(least_stock(bare(8), tuple(range(8))), 0)

    def test_the_least_of_all_worlds(self):
        coming = all_that_come_about(2, 3)
        for table in sorted(all_that_come_about(2, 1)):
            for pool in pools_of(2):
                worlds = [world for world in coming if is_world_by_the_words(table, pool, world, coming)]
                self.assertEqual(least_stock(table, pool), min(map(stock, worlds)))


class Refused(unittest.TestCase):
    def test_no_table(self):
        for table in NOT_COMING_ABOUT + NO_TABLES:
            for call in calls_with(table, (0,)):
                with self.assertRaises(NoTable):
                    call()

    def test_no_house(self):
        pools = (
            (), (0, 0), (1, 0), (0, 2, 1), (0, 1, 1), (3,), (-1,), (0, 3), (-1, 0), (0, 1, 2, 3), (HUGE,), (-3,),
            [0], [], 0, None,
        )
        for pool in pools:
            for number, call in enumerate(calls_with(START, pool)):
                with self.subTest(pool=pool, number=number):
                    with self.assertRaises(NoHouse):
                        call()

    def test_no_table_goes_ahead_of_no_house(self):
        for table in NOT_COMING_ABOUT:
            for pool in ((), (0, 0), (9,), (-1,)):
                for call in calls_with(table, pool):
                    with self.assertRaises(NoTable):
                        call()

    def test_a_pool_that_is_none_is_refused_whatever_the_world(self):
        for world in (bare(2), START, with_number(START, 0, 3, HUGE)):
            with self.assertRaises(NoHouse):
                is_world(START, (0, 9), world)
            with self.assertRaises(NoHouse):
                shows_must(START, (), 1, world)


if __name__ == "__main__":
    unittest.main()

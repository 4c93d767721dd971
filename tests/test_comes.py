"""Points 2, 8 and 9: tables that come about, and their steps."""

import itertools
import random
import unittest

from lendwharf.comes import are_rootless, comes_about, is_root_list, steps
from lendwharf.deeds import done
from lendwharf.errors import NoTable, TooMany
from lendwharf.tables import bare

from tests.samples import (
    HUGE, NO_TABLES, all_that_come_about, are_rootless_by_the_words, chance_tables, grown_table,
    grown_tables, is_root_list_by_the_words, many_tables, rights_by_the_words, small_tables, subsets_of,
    with_number,
)

# Houses 0 and 1 lent one another what neither ever had.
RING_OF_TWO = ((0, 5, 0), (5, 0, 0))
# House 0 has roots; 1, 2 and 3 hand on in a ring, and 3 has used one.
RING_OF_THREE = (
    (4, 0, 0, 0, 2),
    (0, 0, 3, 0, 0),
    (0, 0, 0, 3, 0),
    (0, 3, 0, 0, 0),
)


def ring_of_eight(made):
    rows = bare(8)
    for house in range(8):
        rows = with_number(rows, house, (house + 1) % 8, HUGE)
    return with_number(rows, 5, 5, made)


class ComesAbout(unittest.TestCase):
    def assert_told_by_the_words(self, table):
        told = comes_about(table)
        self.assertIsInstance(told, tuple)
        self.assertEqual(len(told), 2)
        n = len(table)
        if any(rights_by_the_words(table, house) < 0 for house in range(n)):
            self.assertEqual(told[0], "short")
            self.assertIn(told[1], range(n))
            self.assertLess(rights_by_the_words(table, told[1]), 0)
        elif any(are_rootless_by_the_words(table, houses) for houses in subsets_of(n)):
            self.assertEqual(told[0], "rootless")
            self.assertIsInstance(told[1], list)
            self.assertTrue(are_rootless_by_the_words(table, told[1]))
            self.assertIs(are_rootless(table, told[1]), True)
        else:
            self.assertEqual(told[0], "comes")
            self.assertIsInstance(told[1], list)
            self.assertTrue(is_root_list_by_the_words(table, told[1]))
            self.assertIs(is_root_list(table, told[1]), True)
        return told[0]

    def test_just_the_tables_to_which_deeds_lead(self):
        for n, most in ((1, 6), (2, 2), (3, 1)):
            found = all_that_come_about(n, most)
            for table in small_tables(n, most):
                self.assertEqual(comes_about(table)[0] == "comes", table in found, table)

    def test_told_by_the_words(self):
        kinds = {}
        tables = [list(many_tables()), list(small_tables(3, 1)), list(grown_tables(200, 8))]
        for table in itertools.chain.from_iterable(tables):
            kind = self.assert_told_by_the_words(table)
            kinds[kind] = kinds.get(kind, 0) + 1
        self.assertEqual(sorted(kinds), ["comes", "rootless", "short"])

    def test_what_deeds_lead_to_comes_about(self):
        for table in grown_tables(300, 3):
            self.assertEqual(comes_about(table)[0], "comes", table)

    def test_bare_tables(self):
        for n in range(1, 9):
            self.assertEqual(self.assert_told_by_the_words(bare(n)), "comes")

    def test_one_house(self):
        self.assertEqual(comes_about(((3, 3),)), ("comes", [0]))
        self.assertEqual(comes_about(((HUGE, HUGE - 1),)), ("comes", [0]))
        self.assertEqual(comes_about(((3, 4),)), ("short", 0))
        self.assertEqual(comes_about(((0, 1),)), ("short", 0))

    def test_eight_houses(self):
        self.assertEqual(self.assert_told_by_the_words(ring_of_eight(1)), "comes")
        self.assertEqual(comes_about(ring_of_eight(1)), ("comes", [5, 6, 7, 0, 1, 2, 3, 4]))
        self.assertEqual(comes_about(ring_of_eight(0)), ("rootless", list(range(8))))
        self.assertEqual(comes_about(with_number(ring_of_eight(1), 3, 8, 1)), ("short", 3))

    def test_rings_that_nobody_made(self):
        self.assertEqual(comes_about(RING_OF_TWO), ("rootless", [0, 1]))
        self.assertEqual(comes_about(RING_OF_THREE), ("rootless", [1, 2, 3]))

    def test_a_ring_into_which_one_right_was_lent(self):
        lent_in = with_number(RING_OF_THREE, 0, 2, 1)
        self.assertEqual(comes_about(lent_in), ("comes", [0, 2, 3, 1]))
        self.assertEqual(comes_about(with_number(RING_OF_TWO, 1, 1, 1)), ("comes", [1, 0]))

    def test_short_goes_ahead_of_rootless(self):
        both = ((0, 5, 0, 0), (5, 0, 0, 0), (0, 0, 1, 2))
        self.assertTrue(are_rootless_by_the_words(both, [0, 1]))
        self.assertEqual(comes_about(both), ("short", 2))
        self.assertEqual(comes_about(((0, 5, 1), (5, 0, 0))), ("short", 0))

    def test_a_told_list_is_the_askers_own(self):
        for table in (ring_of_eight(1), RING_OF_THREE):
            before = comes_about(table)[1]
            comes_about(table)[1].append("more")
            comes_about(table)[1].clear()
            self.assertEqual(comes_about(table)[1], before)


class Lists(unittest.TestCase):
    def test_all_short_lists_by_the_words(self):
        tables = list(small_tables(2, 1)) + list(chance_tables(3, 60, 1, 5)) + list(chance_tables(3, 20, 2, 6))
        for table in tables:
            for size in range(4):
                for houses in itertools.product(range(-1, len(table) + 1), repeat=size):
                    houses = list(houses)
                    awaited = is_root_list_by_the_words(table, houses)
                    self.assertIs(is_root_list(table, houses), awaited, (table, houses))
                    awaited = are_rootless_by_the_words(table, houses)
                    self.assertIs(are_rootless(table, houses), awaited, (table, houses))

    def test_a_told_root_list_changed(self):
        table = ring_of_eight(1)
        roots = comes_about(table)[1]
        self.assertIs(is_root_list(table, roots), True)
        self.assertIs(is_root_list(table, roots[::-1]), False)
        for place in range(8):
            self.assertIs(is_root_list(table, roots[:place] + roots[place + 1:]), False)
            self.assertIs(is_root_list(table, roots + [roots[place]]), False)
            self.assertIs(is_root_list(table, roots[:place] + [roots[place]] + roots[place:]), False)
        for wrong in (-1, 8, -8, HUGE, -HUGE):
            self.assertIs(is_root_list(table, roots + [wrong]), False)
            self.assertIs(is_root_list(table, [wrong] + roots), False)

    def test_idle_houses_in_a_root_list(self):
        table = ((3, 1, 0, 0), (0, 0, 0, 0), (0, 0, 0, 0))
        for houses, awaited in (([0], True), ([0, 1], True), ([1, 0], False), ([0, 2], False), ([], False)):
            self.assertIs(is_root_list(table, houses), awaited)
        for n in range(1, 9):
            self.assertIs(is_root_list(bare(n), []), True)
            self.assertIs(is_root_list(bare(n), [0]), False)

    def test_a_lending_to_others_is_no_root(self):
        self.assertIs(is_root_list(((1, 0, 0), (1, 0, 0)), [0, 1]), False)
        self.assertIs(is_root_list(((1, 0, 0), (1, 0, 0)), [1, 0]), False)

    def test_by_the_rows_alone_whatever_rights(self):
        self.assertIs(is_root_list(((1, 0, HUGE), (0, 1, HUGE)), [1, 0]), True)
        self.assertIs(are_rootless(((0, 0, HUGE), (0, 1, 0)), [0]), True)
        self.assertIs(are_rootless(((0, 1),), [0]), True)

    def test_rootless_lists_changed(self):
        self.assertIs(are_rootless(RING_OF_THREE, [1, 2, 3]), True)
        wrong = (
            [], [1], [2, 3], [1, 2], [3, 2, 1], [1, 3, 2], [1, 1, 2, 3], [1, 2, 3, 3], [0, 1, 2, 3],
            [1, 2, 3, 4], [-1, 1, 2, 3], [1, 2, 3, HUGE], [0],
        )
        for houses in wrong:
            self.assertIs(are_rootless(RING_OF_THREE, houses), False, houses)

    def test_no_rootless_houses_where_none_lent_or_used(self):
        for n in range(1, 9):
            for houses in subsets_of(n):
                self.assertIs(are_rootless(bare(n), houses), False)

    def test_idle_houses_among_rootless_ones(self):
        table = ((0, 5, 0, 0), (5, 0, 0, 0), (0, 0, 0, 0))
        self.assertIs(are_rootless(table, [0, 1]), True)
        self.assertIs(are_rootless(table, [0, 1, 2]), True)
        self.assertIs(are_rootless(table, [2]), False)

    def test_the_list_handed_in_stays(self):
        houses = [0, 2, 3, 1]
        self.assertIs(is_root_list(with_number(RING_OF_THREE, 0, 2, 1), houses), True)
        self.assertIs(are_rootless(RING_OF_THREE, houses), False)
        self.assertEqual(houses, [0, 2, 3, 1])


class Steps(unittest.TestCase):
    def assert_led_to(self, table):
        told = steps(table)
        self.assertIsInstance(told, list)
        self.assertEqual(len(told), sum(map(sum, table)))
        now = bare(len(table))
        for deed in told:
            self.assertEqual(deed[-1], 1)
            now = done(now, deed)
        self.assertEqual(now, table)

    def test_all_small_tables_that_come_about(self):
        for n, most in ((1, 6), (2, 2), (3, 1)):
            for table in all_that_come_about(n, most):
                self.assert_led_to(table)

    def test_tables_of_chance(self):
        source = random.Random(9)
        for _ in range(150):
            table = grown_table(source.randint(1, 8), source.randint(0, 120), 2, source)
            if sum(map(sum, table)) <= 300:
                self.assert_led_to(table)

    def test_one_right_on_long_ways(self):
        """Few rights and many lendings: whoever lends at a venture is stuck on the way."""
        source = random.Random(10)
        for n in range(2, 9):
            for _ in range(15):
                at = source.randrange(n)
                table = with_number(bare(n), at, at, 1)
                for _ in range(source.randint(0, 299)):
                    to = source.choice([house for house in range(n) if house != at])
                    table = with_number(table, at, to, table[at][to] + 1)
                    at = to
                self.assert_led_to(table)

    def test_rings_hung_on_one_house(self):
        table = (
            (1, 1, 0, 0, 0, 1),
            (1, 0, 9, 0, 0, 0),
            (0, 9, 0, 9, 0, 0),
            (0, 0, 9, 0, 9, 0),
            (0, 0, 0, 9, 0, 0),
        )
        self.assert_led_to(table)

    def test_sums_of_0_299_300(self):
        for n in range(1, 9):
            self.assertEqual(steps(bare(n)), [])
        self.assert_led_to(((299, 0),))
        self.assert_led_to(((150, 149),))
        self.assert_led_to(((150, 150),))
        self.assert_led_to(((300, 0),))
        self.assert_led_to(((1, 149, 1), (149, 0, 0)))

    def test_too_many(self):
        for table in (((301, 0),), ((151, 150),), ((1, 150, 0), (150, 0, 0)), ((HUGE, HUGE),), ring_of_eight(1)):
            with self.assertRaises(TooMany):
                steps(table)

    def test_no_table_and_ahead_of_too_many(self):
        wrong = (
            ((0, 1),), ((150, 151),), ((HUGE, HUGE + 1),), RING_OF_TWO, RING_OF_THREE,
            ((0, 150, 0), (150, 0, 0)), ((0, 151, 0), (151, 0, 0)), ring_of_eight(0),
        )
        for table in wrong:
            with self.assertRaises(NoTable):
                steps(table)

    def test_what_is_no_table_does_not_come_about(self):
        for thing in NO_TABLES:
            with self.assertRaises(NoTable):
                steps(thing)

    def test_a_told_list_is_the_askers_own(self):
        table = ((2, 1, 0), (0, 0, 1))
        before = steps(table)
        steps(table).clear()
        self.assertEqual(steps(table), before)


if __name__ == "__main__":
    unittest.main()

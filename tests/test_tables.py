"""Points 2, 4, 5 and 6: tables, rights, stock, within, joined."""

import itertools
import unittest

from lendwharf.errors import NoHouse, NoTable
from lendwharf.tables import bare, is_table, is_within, joined, rights, stock

from tests.samples import (
    HUGE, RIGHTS_OF_THREE, THREE, Touchy, chance_tables, deep_tuple, endless_list, many_tables,
    rights_by_the_words, small_tables, with_number,
)


class IsTable(unittest.TestCase):
    def assert_none(self, things):
        for number, thing in enumerate(things):
            with self.subTest(number=number):
                self.assertIs(is_table(thing), False)

    def test_tables_of_one_to_eight_houses(self):
        for table in many_tables():
            self.assertIs(is_table(table), True)

    def test_the_smallest_and_a_greatest(self):
        self.assertIs(is_table(((0, 0),)), True)
        self.assertIs(is_table(((HUGE, HUGE),)), True)
        self.assertIs(is_table(((HUGE,) * 9,) * 8), True)

    def test_numbers_beyond_thirty_one_figures_are_numbers(self):
        self.assertIs(is_table(((10 ** 40, 0),)), True)

    def test_a_table_with_rights_below_nought_is_a_table(self):
        self.assertIs(is_table(THREE), True)

    def test_wrong_numbers_of_rows(self):
        self.assert_none([(), ((0,) * 10,) * 9, ((0,) * 9,) * 9, ((0,),), ((0,) * 100,) * 99])

    def test_rows_too_long_or_too_short(self):
        for n in range(1, 9):
            for house in range(n):
                rows = list(bare(n))
                for row in ((0,) * n, (0,) * (n + 2), ()):
                    self.assert_none([tuple(rows[:house] + [row] + rows[house + 1:])])

    def test_lists_for_tuples(self):
        self.assert_none([
            [(0, 0)], ([0, 0],), [[0, 0]],
            [(0, 0, 0), (0, 0, 0)], ((0, 0, 0), [0, 0, 0]), ([0, 0, 0], (0, 0, 0)),
        ])

    def test_a_wrong_thing_at_each_place(self):
        wrong = (-1, -HUGE, True, False, None, "0", "", (0,), (), [], {}, b"0", Touchy(), 1j)
        for n in (1, 2, 3, 8):
            for house, place in itertools.product(range(n), range(n + 1)):
                self.assert_none([with_number(bare(n), house, place, thing) for thing in wrong])

    def test_other_things(self):
        self.assert_none([
            None, True, False, 0, 1, 2, -1, HUGE, "", "0 0", "((0, 0),)", b"", [], {}, set(),
            {0: (0, 0)}, {(0, 0)}, frozenset(), range(1), object(), int, tuple, is_table, Touchy(),
            iter(()), (x for x in ((0, 0),)), (None,), ("00",), ("ab", "cd"), (0,), (0, 0),
            (range(2),), ({0: 0, 1: 0},), (Touchy(),), (Touchy(), Touchy()),
        ])

    def test_nested_things(self):
        loop = endless_list()
        self.assert_none([
            (((0, 0),),), ((((0, 0),),),), (((0,), (0,)),), ((), ()), ((()),), [[[[]]]],
            loop, (loop,), ((loop, loop),), deep_tuple(), (deep_tuple(), 0), ((deep_tuple(), 0),),
        ])


class Bare(unittest.TestCase):
    def test_one_house(self):
        self.assertEqual(bare(1), ((0, 0),))

    def test_three_houses(self):
        self.assertEqual(bare(3), ((0, 0, 0, 0), (0, 0, 0, 0), (0, 0, 0, 0)))

    def test_all_numbers_of_houses(self):
        for n in range(1, 9):
            table = bare(n)
            self.assertIs(is_table(table), True)
            self.assertEqual(len(table), n)
            self.assertEqual([sum(row) for row in table], [0] * n)


class Rights(unittest.TestCase):
    def test_above_at_and_below_nought(self):
        self.assertEqual([rights(THREE, house) for house in range(3)], RIGHTS_OF_THREE)

    def test_one_house(self):
        self.assertEqual(rights(((5, 2),), 0), 3)
        self.assertEqual(rights(((2, 5),), 0), -3)
        self.assertEqual(rights(((2, 2),), 0), 0)

    def test_each_number_counts_for_its_houses_alone(self):
        n = 3
        for house, place in itertools.product(range(n), range(n + 1)):
            awaited = [0] * n
            if place == house:
                awaited[house] = 7
            else:
                awaited[house] = -7
                if place < n:
                    awaited[place] = 7
            table = with_number(bare(n), house, place, 7)
            self.assertEqual([rights(table, one) for one in range(n)], awaited)

    def test_by_the_words_of_the_document(self):
        for table in many_tables():
            for house in range(len(table)):
                self.assertEqual(rights(table, house), rights_by_the_words(table, house))

    def test_huge_numbers_are_exact(self):
        table = ((HUGE, 1, HUGE), (HUGE, HUGE, 0))
        self.assertEqual(rights(table, 0), HUGE - 1)
        self.assertEqual(rights(table, 1), 1)
        self.assertEqual(stock(table), HUGE)

    def test_no_house(self):
        for table in (((5, 2),), THREE, bare(8)):
            n = len(table)
            for house in (-1, -2, -n, -n - 1, -HUGE, n, n + 1, HUGE):
                with self.subTest(n=n, house=house):
                    with self.assertRaises(NoHouse):
                        rights(table, house)

    def test_things_that_are_no_numbers_are_no_houses(self):
        for house in (True, False, None, "0", (0,), []):
            with self.assertRaises(NoHouse):
                rights(THREE, house)


class Stock(unittest.TestCase):
    def test_made_less_used(self):
        self.assertEqual(stock(THREE), 6)
        self.assertEqual(stock(((5, 2),)), 3)

    def test_below_nought(self):
        self.assertEqual(stock(((2, 5),)), -3)

    def test_bare(self):
        for n in range(1, 9):
            self.assertEqual(stock(bare(n)), 0)

    def test_lending_changes_no_stock(self):
        self.assertEqual(stock(with_number(THREE, 2, 1, HUGE)), stock(THREE))

    def test_the_sum_of_all_rights(self):
        for table in many_tables():
            n = len(table)
            self.assertEqual(stock(table), sum(rights(table, house) for house in range(n)))
            made = sum(table[house][house] for house in range(n))
            self.assertEqual(stock(table), made - sum(row[n] for row in table))


class Within(unittest.TestCase):
    def test_equal_tables(self):
        for table in many_tables():
            self.assertIs(is_within(table, table), True)

    def test_bare_is_within_all(self):
        self.assertIs(is_within(bare(3), THREE), True)
        self.assertIs(is_within(THREE, bare(3)), False)

    def test_one_number_greater_at_each_place(self):
        for table in (THREE, bare(1), bare(8), ((HUGE,) * 3,) * 2):
            n = len(table)
            for house, place in itertools.product(range(n), range(n + 1)):
                more = with_number(table, house, place, table[house][place] + 1)
                self.assertIs(is_within(table, more), True)
                self.assertIs(is_within(more, table), False)

    def test_neither_within_the_other(self):
        self.assertIs(is_within(((1, 0),), ((0, 1),)), False)
        self.assertIs(is_within(((0, 1),), ((1, 0),)), False)
        one = ((9, 9, 9), (0, 0, 1))
        other = ((9, 9, 9), (9, 9, 0))
        self.assertIs(is_within(one, other), False)
        self.assertIs(is_within(other, one), False)

    def test_just_where_joining_adds_nothing(self):
        for one, other in itertools.product(small_tables(2, 1), repeat=2):
            self.assertIs(is_within(one, other), joined(one, other) == other)

    def test_unlike_numbers_of_houses(self):
        for n, m in itertools.permutations(range(1, 9), 2):
            with self.assertRaises(NoTable):
                is_within(bare(n), bare(m))


class Joined(unittest.TestCase):
    def test_the_greater_at_each_place(self):
        one = ((1, 5, 2), (0, 9, 3))
        other = ((4, 0, 2), (1, 8, HUGE))
        self.assertEqual(joined(one, other), ((4, 5, 2), (1, 9, HUGE)))
        self.assertEqual(joined(other, one), ((4, 5, 2), (1, 9, HUGE)))

    def test_is_a_table_with_each_within(self):
        for n in range(1, 9):
            ones = list(chance_tables(n, 20, HUGE, 7 * n))
            for one, other in zip(ones, reversed(ones)):
                both = joined(one, other)
                self.assertIs(is_table(both), True)
                self.assertIs(is_within(one, both), True)
                self.assertIs(is_within(other, both), True)
                for house, place in itertools.product(range(n), range(n + 1)):
                    pair = (one[house][place], other[house][place])
                    self.assertEqual(both[house][place], max(pair))

    def test_with_itself_and_with_the_bare(self):
        for table in many_tables():
            noughts = bare(len(table))
            self.assertEqual(joined(table, table), table)
            self.assertEqual(joined(table, noughts), table)
            self.assertEqual(joined(noughts, table), table)

    def test_any_order_again_and_again(self):
        for n in (1, 2, 3, 8):
            tables = list(chance_tables(n, 4, 9, 50 + n))
            ends = set()
            for order in itertools.permutations(tables):
                both = bare(n)
                for table in order + order[:2]:
                    both = joined(both, table)
                ends.add(both)
            self.assertEqual(len(ends), 1)
            left = joined(joined(tables[0], tables[1]), tables[2])
            right = joined(tables[0], joined(tables[1], tables[2]))
            self.assertEqual(left, right)

    def test_unlike_numbers_of_houses(self):
        for n, m in itertools.permutations(range(1, 9), 2):
            with self.assertRaises(NoTable):
                joined(bare(n), bare(m))


if __name__ == "__main__":
    unittest.main()

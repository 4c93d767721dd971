"""Points 2, 16 and 17: what all stand with, and its account."""

import copy
import itertools
import random
import unittest

from lendwharf.errors import NoHouse, NoStand
from lendwharf.runs import played
from lendwharf.stands import account, held, is_stand, on_the_way, whole
from lendwharf.tables import bare, joined, rights, stock

from tests.samples import HUGE, THREE, chance_run, grown_table, places_of, rights_by_the_words, with_number

# House 0 made 10 and lent 4 to house 1, which knows of 3 of them and used 2; house 1 made 1, lent it to 0.
PAIR = [((10, 4, 0), (0, 1, 0)), ((10, 3, 0), (1, 1, 2))]


def is_stand_by_the_words(tables):
    n = len(tables)
    if n == 0 or any(len(table) != n for table in tables):
        return False
    for table in tables:
        for house, place in places_of(n):
            if table[house][place] > tables[house][house][place]:
                return False
    return True


def lesser_row(row, source):
    return tuple(source.randint(0, number) for number in row)


def chance_stand(n, most, source):
    """Whatever the rows say, as long as nobody knows more than the house itself."""
    own = [tuple(source.randint(0, most) for _ in range(n + 1)) for _ in range(n)]
    return [tuple(own[j] if j == i else lesser_row(own[j], source) for j in range(n)) for i in range(n)]


def chance_stands(how_many, seed):
    source = random.Random(seed)
    for number in range(how_many):
        yield chance_stand(number % 8 + 1, source.choice([1, 4, HUGE]), source)


def stands_of_runs(how_many, seed):
    source = random.Random(seed)
    for number in range(how_many):
        n = number % 8 + 1
        start = grown_table(n, 10, 3, source)
        yield played(start, chance_run(n, 60, source.choice([2, 10 ** 25]), source))[1]


def pairs_of(n):
    return itertools.permutations(range(n), 2)


class IsStand(unittest.TestCase):
    def test_one_and_eight_houses(self):
        self.assertIs(is_stand([((3, 1),)]), True)
        self.assertIs(is_stand([((HUGE, HUGE),)]), True)
        self.assertIs(is_stand([bare(8)] * 8), True)
        self.assertIs(is_stand([((1, 3),)]), True)
        self.assertIs(is_stand(PAIR), True)

    def test_what_runs_leave(self):
        for tables in stands_of_runs(24, 41):
            self.assertIs(is_stand(tables), True)

    def test_stands_of_chance(self):
        for tables in chance_stands(48, 42):
            self.assertIs(is_stand(tables), True)

    def test_one_number_more_than_the_houses_own(self):
        for tables in chance_stands(16, 43):
            n = len(tables)
            for number in range(n):
                for house, place in places_of(n):
                    if house == number:
                        continue
                    wrong = list(tables)
                    own = tables[house][house][place]
                    wrong[number] = with_number(tables[number], house, place, own + 1)
                    self.assertIs(is_stand(wrong), False)
                    wrong[number] = with_number(tables[number], house, place, own)
                    self.assertIs(is_stand(wrong), True)

    def test_all_small_lists_by_the_words(self):
        numbers = [((a, b, 0), (c, d, 0)) for a, b, c, d in itertools.product(range(2), repeat=4)]
        for one, other in itertools.product(numbers, repeat=2):
            self.assertIs(is_stand([one, other]), is_stand_by_the_words([one, other]))

    def test_of_none_and_of_other_numbers_of_houses(self):
        self.assertIs(is_stand([]), False)
        for n, m in itertools.product(range(1, 9), repeat=2):
            self.assertIs(is_stand([bare(n)] * m), n == m)
        self.assertIs(is_stand([bare(2), bare(1)]), False)
        self.assertIs(is_stand([bare(2), bare(3)]), False)
        self.assertIs(is_stand([bare(3), bare(3), bare(2)]), False)

    def test_what_is_no_list_of_tables(self):
        for tables in ((((3, 1),),), [((3, -1),)], [((3,),)], [[(3, 1)]], [((True, 0),)], [None], None):
            self.assertIs(is_stand(tables), False)

    def test_tables_turned_about(self):
        self.assertIs(is_stand(PAIR[::-1]), False)

    def test_held_below_nought_is_a_stand(self):
        self.assertIs(is_stand([THREE] * 3), True)


class Whole(unittest.TestCase):
    def test_all_own_rows(self):
        self.assertEqual(whole(PAIR), ((10, 4, 0), (1, 1, 2)))
        self.assertEqual(whole([((3, 1),)]), ((3, 1),))

    def test_is_the_join_of_all(self):
        for tables in list(chance_stands(40, 44)) + list(stands_of_runs(16, 45)):
            all_joined = tables[0]
            for table in tables:
                all_joined = joined(all_joined, table)
            self.assertEqual(whole(tables), all_joined)
            self.assertEqual(whole(tables), tuple(table[house] for house, table in enumerate(tables)))


class HeldAndOnTheWay(unittest.TestCase):
    def test_a_pair(self):
        self.assertEqual(held(PAIR), [6, 1])
        self.assertEqual(on_the_way(PAIR, 0, 1), 1)
        self.assertEqual(on_the_way(PAIR, 1, 0), 1)

    def test_held_below_nought(self):
        self.assertEqual(held([THREE] * 3), [11, 0, -5])
        self.assertEqual(held([((1, HUGE),)]), [1 - HUGE])

    def test_by_the_words(self):
        for tables in chance_stands(40, 46):
            n = len(tables)
            self.assertEqual(held(tables), [rights_by_the_words(tables[house], house) for house in range(n)])
            for i, j in pairs_of(n):
                self.assertEqual(on_the_way(tables, i, j), tables[i][i][j] - tables[j][i][j])
                self.assertGreaterEqual(on_the_way(tables, i, j), 0)

    def test_together_the_stock_of_the_whole(self):
        for tables in list(chance_stands(40, 47)) + list(stands_of_runs(16, 48)):
            n = len(tables)
            going = sum(on_the_way(tables, i, j) for i, j in pairs_of(n))
            self.assertEqual(sum(held(tables)) + going, stock(whole(tables)))

    def test_when_each_has_joined_all(self):
        for tables in list(chance_stands(40, 49)) + list(stands_of_runs(16, 50)):
            n = len(tables)
            for house in range(n):
                table = tables[house]
                for other in tables:
                    table = joined(table, other)
                coming = sum(on_the_way(tables, other, house) for other in range(n) if other != house)
                self.assertEqual(rights(table, house), held(tables)[house] + coming)

    def test_to_itself_and_to_no_house(self):
        for tables in (PAIR, [bare(8)] * 8, [((3, 1),)]):
            n = len(tables)
            for i, j in ((0, 0), (n - 1, n - 1), (0, n), (n, 0), (0, -1), (-1, 0), (n, n), (-1, -2), (HUGE, 0)):
                with self.assertRaises(NoHouse):
                    on_the_way(tables, i, j)


class Account(unittest.TestCase):
    def test_a_pair(self):
        self.assertEqual(account(PAIR), [(6, 1, 7), (1, 1, 2)])

    def test_one_and_eight_houses(self):
        self.assertEqual(account([((3, 1),)]), [(2, 0, 2)])
        self.assertEqual(account([((3, 3),)]), [(0, 0, 0)])
        self.assertEqual(account([bare(8)] * 8), [(0, 0, 0)] * 8)

    def test_by_the_words(self):
        sound = 0
        for tables in list(chance_stands(80, 51)) + list(stands_of_runs(40, 52)):
            n = len(tables)
            had = [rights_by_the_words(tables[house], house) for house in range(n)]
            if min(had) < 0:
                with self.assertRaises(NoStand):
                    account(tables)
                continue
            sound += 1
            told = account(tables)
            self.assertIsInstance(told, list)
            for house in range(n):
                coming = sum(tables[i][i][house] - tables[house][i][house] for i in range(n) if i != house)
                self.assertEqual(told[house], (had[house], coming, had[house] + coming))
            self.assertEqual(sum(most for now, later, most in told), stock(whole(tables)))
        self.assertGreater(sound, 40)

    def test_not_sound(self):
        for tables in ([((1, 2),)], [THREE] * 3, [((0, 0, 0), (0, 0, 0)), ((0, 0, 0), (0, 0, 1))]):
            self.assertIs(is_stand(tables), True)
            with self.assertRaises(NoStand):
                account(tables)

    def test_below_nought_though_more_is_on_the_way(self):
        tables = [((9, 5, 0), (0, 0, 0)), ((9, 0, 0), (0, 0, 2))]
        self.assertEqual(held(tables), [4, -2])
        with self.assertRaises(NoStand):
            account(tables)


class Refused(unittest.TestCase):
    def test_no_stand(self):
        for tables in ([], PAIR[::-1], [bare(2)], [bare(1)] * 2, [bare(2), ((1, 0, 0), (0, 0, 0))]):
            for call in (whole, held, account):
                with self.assertRaises(NoStand):
                    call(tables)

    def test_no_stand_goes_ahead_of_no_house(self):
        for tables in ([], PAIR[::-1], [bare(2)], [bare(1)] * 2):
            for i, j in ((0, 1), (0, 0), (-1, 0), (0, 9)):
                with self.assertRaises(NoStand):
                    on_the_way(tables, i, j)

    def test_what_is_handed_in_stays_and_what_is_told_is_new(self):
        tables = copy.deepcopy(PAIR)
        held(tables).clear()
        account(tables).clear()
        whole(tables)
        is_stand(tables)
        on_the_way(tables, 0, 1)
        self.assertEqual(tables, PAIR)
        self.assertEqual(held(tables), [6, 1])
        self.assertEqual(account(tables), [(6, 1, 7), (1, 1, 2)])


if __name__ == "__main__":
    unittest.main()

"""Points 2, 14, 15, 23 and 25: what a pool may use of what the gone ones had too."""

import random
import unittest

from lendwharf.errors import NoBook, NoHouse, NoTable
from lendwharf.heirs import heirs_may
from lendwharf.views import is_world, may_use, shows_must

from tests.samples import NO_TABLES, grown_table, rights_by_the_words, subsets_of

# House 0 made 10 and lent 4 to 1 and 1 to 2; house 1 used 1: rights of 5, 3 and 1.
TABLE = ((10, 4, 1, 0), (0, 0, 0, 1), (0, 0, 0, 0))
TWO_OF_THREE = (3, ((0, 1), (0, 2), (1, 2)))
TOGETHER = (3, ((0, 1, 2),))
EACH = (3, ((0,), (1,), (2,)))
# House 1 lent what it never had.
SHORT_TABLE = ((10, 0, 0, 0), (1, 0, 0, 0), (0, 0, 0, 0))


class Sure(unittest.TestCase):
    def test_k_at_below_and_above_what_they_have_together(self):
        for k in (1, 5, 7, 8):
            self.assertEqual(heirs_may(TWO_OF_THREE, TABLE, (0, 1), (), k), ("may", 8))
        for k in (1, 8, 9):
            self.assertEqual(heirs_may(TWO_OF_THREE, TABLE, (0, 1), (2,), k), ("may", 9))
        told = heirs_may(TWO_OF_THREE, TABLE, (0, 1), (2,), 10)
        self.assertEqual(told, ("must", TABLE))

    def test_must_with_a_world_of_pool_and_gone(self):
        told = heirs_may(TOGETHER, TABLE, (0,), (2,), 7)
        self.assertEqual((told.__class__, len(told), told[0]), (tuple, 2, "must"))
        self.assertIs(shows_must(TABLE, (0, 2), 7, told[1]), True)
        self.assertEqual(heirs_may(TOGETHER, TABLE, (0,), (2,), 6), ("may", 6))

    def test_gone_ones_stand_ahead_of_and_between_the_pool(self):
        self.assertEqual(heirs_may(TOGETHER, TABLE, (2,), (0,), 6), ("may", 6))
        self.assertEqual(heirs_may(TOGETHER, TABLE, (0, 2), (1,), 9), ("may", 9))
        self.assertEqual(heirs_may(TOGETHER, TABLE, (1,), (0, 2), 9), ("may", 9))

    def test_the_gone_ones_need_not_be_borne(self):
        self.assertEqual(heirs_may(EACH, TABLE, (0, 1, 2), (), 9), ("may", 9))
        self.assertEqual(heirs_may((1, ((0,),)), ((4, 1),), (0,), (), 3), ("may", 3))

    def test_of_chance_by_the_words(self):
        source = random.Random(111)
        kinds = []
        for _ in range(300):
            n = source.randint(1, 8)
            table = grown_table(n, source.randint(0, 25), source.choice([2, 10 ** 25]), source)
            parts = [source.choice("pgo") for _ in range(n)]
            pool = tuple(house for house in range(n) if parts[house] == "p") or (0,)
            gone = tuple(house for house in range(n) if parts[house] == "g" and house not in pool)
            groups = [tuple(one) for one in subsets_of(n) if one and source.random() < 0.3] or [(0,)]
            book = (n, tuple(sorted(groups)))
            together = sum(rights_by_the_words(table, house) for house in pool + gone)
            k = max(1, together + source.randint(-1, 1))
            told = heirs_may(book, table, pool, gone, k)
            unmet = [one for one in book[1] if not set(one) & set(pool)]
            kinds.append(told[0])
            if unmet:
                self.assertEqual((told[0], len(told)), ("blind", 2))
                self.assertIn(told[1], unmet)
            elif together >= k:
                self.assertEqual(told, ("may", together))
            else:
                both = tuple(sorted(pool + gone))
                self.assertEqual((told[0], len(told)), ("must", 2))
                self.assertIs(is_world(table, both, told[1]), True)
                self.assertIs(shows_must(table, both, k, told[1]), True)
                self.assertEqual(told[0], may_use(table, both, k)[0])
        self.assertEqual(set(kinds), {"blind", "may", "must"})


class NotSure(unittest.TestCase):
    def test_blind_whatever_k_is(self):
        for k in (1, 5, 6, 100):
            self.assertEqual(heirs_may(TWO_OF_THREE, TABLE, (0,), (), k), ("blind", (1, 2)))
            self.assertEqual(heirs_may(TWO_OF_THREE, TABLE, (0,), (1, 2), k), ("blind", (1, 2)))
            self.assertEqual(heirs_may(EACH, TABLE, (0, 1), (2,), k), ("blind", (2,)))

    def test_any_unmet_set(self):
        self.assertIn(heirs_may(EACH, TABLE, (1,), (2,), 1), (("blind", (0,)), ("blind", (2,))))


class Refusals(unittest.TestCase):
    def assert_refused(self, error, book=TWO_OF_THREE, table=TABLE, pool=(0, 1), gone=(2,), k=1):
        with self.assertRaises(error):
            heirs_may(book, table, pool, gone, k)

    def test_no_book(self):
        for book in (None, (), (3, ()), (3, ((),)), (3, ((1,), (0,))), [3, ((0,),)], (3, ((3,),)), (0, ((0,),))):
            self.assert_refused(NoBook, book)
            self.assert_refused(NoBook, book, SHORT_TABLE)
            self.assert_refused(NoBook, book, "no table")
            self.assert_refused(NoBook, book, TABLE, (), (9,))

    def test_a_book_of_another_number_of_houses(self):
        for n in (1, 2, 4, 8, 9):
            self.assert_refused(NoBook, (n, ((0,),)))
            self.assert_refused(NoBook, (n, ((0,),)), SHORT_TABLE)
            self.assert_refused(NoBook, (n, ((0,),)), TABLE, (1, 0), (2,))
        self.assert_refused(NoBook, (9, ((0,),)), ((0,) * 9,) * 8, (0,), ())

    def test_no_table(self):
        self.assert_refused(NoTable, table=SHORT_TABLE)
        self.assert_refused(NoTable, table=((0, 5, 0, 0), (5, 0, 0, 0), (0, 0, 0, 0)))
        self.assert_refused(NoTable, table=((1, 0, 0, 0), (0, -1, 0, 0), (0, 0, 0, 0)))
        self.assert_refused(NoTable, table=((1, 0, 0), (0, 1, 0), (0, 0, 0)))
        self.assert_refused(NoTable, (9, ((0,),)), ((0,) * 10,) * 9, (0,), ())
        for table in NO_TABLES:
            if table.__class__ is not tuple:
                self.assert_refused(NoTable, table=table)

    def test_no_table_goes_ahead_of_no_house(self):
        self.assert_refused(NoTable, table=SHORT_TABLE, pool=())
        self.assert_refused(NoTable, table=SHORT_TABLE, pool=(0,), gone=(0,))
        self.assert_refused(NoTable, table=SHORT_TABLE, pool=(0, 1), gone=(3,))

    def test_houses_that_are_none_or_not_rising(self):
        for houses in ((3,), (-1,), (1, 0), (0, 0), (0, 1, 3), (True,)):
            self.assert_refused(NoHouse, pool=houses, gone=())
            self.assert_refused(NoHouse, pool=houses, gone=(2,))
            self.assert_refused(NoHouse, TOGETHER, pool=(2,), gone=houses)

    def test_a_pool_of_none(self):
        self.assert_refused(NoHouse, pool=(), gone=())
        self.assert_refused(NoHouse, pool=(), gone=(0, 1, 2))

    def test_a_house_in_both(self):
        self.assert_refused(NoHouse, pool=(0, 1), gone=(1,))
        self.assert_refused(NoHouse, pool=(0, 1), gone=(0, 1))
        self.assert_refused(NoHouse, pool=(0, 1, 2), gone=(2,))

    def test_no_house_goes_ahead_of_blind(self):
        self.assert_refused(NoHouse, pool=(0,), gone=(0,))
        self.assert_refused(NoHouse, pool=(0,), gone=(2, 1))
        self.assert_refused(NoHouse, EACH, pool=(0, 1), gone=(1, 2))
        self.assert_refused(NoHouse, EACH, pool=(1, 0), gone=(2,))


if __name__ == "__main__":
    unittest.main()

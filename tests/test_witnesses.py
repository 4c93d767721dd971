"""Points 2, 23 and 24: books of witnesses, free and unmet sets, what a book bears."""

import itertools
import random
import unittest

from lendwharf.errors import NoBook, NoHouse
from lendwharf.witnesses import bears, free_set, is_blind, is_book, is_stuck, most_borne, unmet_set

from tests.samples import HUGE, Touchy, endless_list, other_things

# Any two of three houses: the ordinary book.
MOST_OF_THREE = (3, ((0, 1), (0, 2), (1, 2)))
# One house alone witnesses all; and all must, together.
ALONE = (3, ((0,),))
TOGETHER = (3, ((0, 1, 2),))
EACH = (3, ((0,), (1,), (2,)))
MIXED = (4, ((0, 1, 2), (0, 3), (1, 3), (2,)))

NO_BOOKS = (
    (), (3,), (3, ((0,),), ()), [3, ((0,),)], (0, ((0,),)), (10, ((0,),)), (3, ()), (3, ((),)), (3, ((), (0,))),
    (3, ((0,), (0,))), (3, ((1,), (0,))), (3, ((0, 1), (0,))), (3, ((1, 0),)), (3, ((0, 0),)), (3, ((3,),)),
    (3, ((-1,),)), (3, [(0,)]), (3, ([0],)), (True, ((0,),)), (3, ((False,),)), (3, ((0, True),)), (3, (0,)), None,
)
NOT_RISING_HOUSES = ((1, 0), (0, 0), (0, 1, 1), (3,), (-1,), (0, 3), (-1, 0), (HUGE,), (0, 2, 1))


def subsets(n):
    return [one for size in range(n + 1) for one in itertools.combinations(range(n), size)]


def chance_book(source):
    n = source.randint(1, 9)
    sizes = source.choice([(1, 2), (2, 3), (n // 2 + 1, n // 2 + 1), (1, n)])
    sets = set()
    for _ in range(source.randint(1, 12)):
        size = min(n, source.randint(*sizes))
        sets.add(tuple(sorted(source.sample(range(n), size))))
    return (n, tuple(sorted(sets)))


def does_bear(book, f):
    """Point 24: whichever f are gone, some set has none of them, and the others meet each set."""
    n, sets = book
    for gone in itertools.combinations(range(n), f):
        others = set(range(n)) - set(gone)
        if not any(set(one).isdisjoint(gone) for one in sets):
            return False
        if any(others.isdisjoint(one) for one in sets):
            return False
    return True


class IsBook(unittest.TestCase):
    def test_ordinary_ones(self):
        for book in (MOST_OF_THREE, ALONE, TOGETHER, EACH, MIXED, (1, ((0,),))):
            self.assertIs(is_book(book), True, book)
        source = random.Random(101)
        for _ in range(300):
            self.assertIs(is_book(chance_book(source)), True)

    def test_bounds_of_n(self):
        for n in range(-1, 12):
            self.assertIs(is_book((n, ((0,),))), 1 <= n <= 9, n)
        for n in range(1, 10):
            self.assertIs(is_book((n, ((n - 1,),))), True)
            self.assertIs(is_book((n, ((n,),))), False)
        for n in (HUGE, -HUGE, True, False, "3", None, (3,), [3], Touchy()):
            self.assertIs(is_book((n, ((0,),))), False)

    def test_all_sets_of_nine(self):
        everything = tuple(sorted(subsets(9)[1:]))
        self.assertEqual(len(everything), 511)
        self.assertIs(is_book((9, everything)), True)
        self.assertIs(is_book((8, everything)), False)

    def test_wrong_ones(self):
        for thing in NO_BOOKS:
            self.assertIs(is_book(thing), False, thing)

    def test_sets_rise_as_python_sorts(self):
        self.assertIs(is_book((3, ((0,), (0, 1), (0, 1, 2), (0, 2), (1,)))), True)
        self.assertIs(is_book((3, ((0,), (0, 1), (0, 2), (0, 1, 2)))), False)
        self.assertIs(is_book((3, ((0,), (1,), (0, 1)))), False)

    def test_small_ones_by_the_words(self):
        parts = [(), (0,), (1,), (0, 1), (1, 0), (0, 0), (2,)]
        for number in range(4):
            for sets in itertools.product(parts, repeat=number):
                right = len(sets) > 0 and all(one in ((0,), (1,), (0, 1)) for one in sets)
                right = right and sorted(set(sets)) == list(sets)
                self.assertIs(is_book((2, sets)), right, sets)

    def test_things_of_other_kinds_at_each_place(self):
        for number, thing in enumerate(other_things()):
            with self.subTest(number=number):
                self.assertIs(is_book(thing), False)
                if thing.__class__ is not int:
                    self.assertIs(is_book((thing, ((0,),))), False)
                    self.assertIs(is_book((3, ((thing,),))), False)
                    self.assertIs(is_book((3, ((0, thing),))), False)
                self.assertIs(is_book((3, thing)), False)
                if not (thing.__class__ is tuple and [part.__class__ for part in thing] == [int]):
                    self.assertIs(is_book((3, (thing,))), False)
                    self.assertIs(is_book((3, ((0,), thing))), False)


class FreeSet(unittest.TestCase):
    def test_by_hand(self):
        self.assertIn(free_set(MOST_OF_THREE, ()), MOST_OF_THREE[1])
        self.assertEqual(free_set(MOST_OF_THREE, (0,)), (1, 2))
        self.assertIsNone(free_set(MOST_OF_THREE, (0, 1)))
        self.assertIsNone(free_set(MOST_OF_THREE, (0, 1, 2)))
        self.assertEqual(free_set(ALONE, (1, 2)), (0,))
        self.assertIsNone(free_set(ALONE, (0,)))
        self.assertEqual(free_set(MIXED, (0, 1, 3)), (2,))

    def test_by_the_words(self):
        source = random.Random(102)
        for _ in range(60):
            book = chance_book(source)
            for gone in subsets(book[0]):
                free = [one for one in book[1] if not set(one) & set(gone)]
                told = free_set(book, gone)
                if free:
                    self.assertIn(told, free)
                else:
                    self.assertIsNone(told)
                self.assertIs(is_stuck(book, gone), not free)


class UnmetSet(unittest.TestCase):
    def test_by_hand(self):
        self.assertIsNone(unmet_set(MOST_OF_THREE, (0, 1)))
        self.assertEqual(unmet_set(MOST_OF_THREE, (0,)), (1, 2))
        self.assertIsNone(unmet_set(TOGETHER, (2,)))
        self.assertIn(unmet_set(EACH, (1,)), ((0,), (2,)))
        self.assertIsNone(unmet_set(EACH, (0, 1, 2)))
        self.assertEqual(unmet_set(MIXED, (0, 1, 3)), (2,))

    def test_by_the_words(self):
        source = random.Random(103)
        for _ in range(60):
            book = chance_book(source)
            for pool in subsets(book[0])[1:]:
                unmet = [one for one in book[1] if not set(one) & set(pool)]
                told = unmet_set(book, pool)
                if unmet:
                    self.assertIn(told, unmet)
                else:
                    self.assertIsNone(told)


class Bears(unittest.TestCase):
    def assert_paper(self, book, f, told):
        """Point 24, word by word: what the paper says is so."""
        n, sets = book
        self.assertIs(told.__class__, tuple)
        if does_bear(book, f):
            self.assertEqual(told, ("bears", f), book)
            return
        self.assertIn(told[0], ("stuck", "blind"), (book, f))
        gone = told[1]
        self.assertIs(gone.__class__, tuple)
        self.assertEqual((len(gone), list(gone)), (f, sorted(set(gone) & set(range(n)))), (book, told))
        if told[0] == "stuck":
            self.assertEqual(len(told), 2)
            self.assertTrue(all(set(one) & set(gone) for one in sets), (book, told))
            self.assertIs(is_stuck(book, gone), True)
        else:
            self.assertEqual(len(told), 3)
            self.assertIn(told[2], sets)
            self.assertLessEqual(set(told[2]), set(gone))
            self.assertIs(is_blind(book, gone, told[2]), True)

    def test_by_hand(self):
        self.assertEqual(bears(MOST_OF_THREE, 0), ("bears", 0))
        self.assertEqual(bears(MOST_OF_THREE, 1), ("bears", 1))
        self.assertIn(bears(MOST_OF_THREE, 2)[0], ("stuck", "blind"))
        self.assertEqual(bears(ALONE, 1)[1], (0,))
        self.assertEqual(bears(TOGETHER, 1)[0], "stuck")
        self.assertIn(bears(EACH, 1), [("blind", (house,), (house,)) for house in range(3)])
        self.assertEqual(most_borne(MOST_OF_THREE)[0], 1)

    def test_books_that_bear_the_most(self):
        for n in range(1, 10):
            for size in range(1, n + 1):
                book = (n, tuple(itertools.combinations(range(n), size)))
                # Too few are left for a set, or a whole set is gone.
                most = min(n - size, size - 1)
                for f in range(n + 1):
                    self.assert_paper(book, f, bears(book, f))
                    self.assertIs(bears(book, f)[0] == "bears", f <= most)
                self.assertEqual(most_borne(book)[0], most)

    def test_of_chance(self):
        source = random.Random(104)
        kinds = []
        for _ in range(150):
            book = chance_book(source)
            for f in range(book[0] + 1):
                told = bears(book, f)
                kinds.append((told[0], f > 0))
                self.assert_paper(book, f, told)
        self.assertEqual(set(kinds), {("bears", False), ("bears", True), ("stuck", True), ("blind", True)})

    def test_none_and_all(self):
        source = random.Random(105)
        for _ in range(100):
            book = chance_book(source)
            self.assertEqual(bears(book, 0), ("bears", 0))
            self.assertNotEqual(bears(book, book[0])[0], "bears")

    def test_beyond_the_bound_nothing_is_refused(self):
        for f in (-1, 4, 5):
            self.assertIs(bears(MOST_OF_THREE, f).__class__, tuple)

    def test_most_borne(self):
        source = random.Random(106)
        for _ in range(150):
            book = chance_book(source)
            told = most_borne(book)
            self.assertEqual((told.__class__, len(told)), (tuple, 2))
            f, paper = told
            self.assertTrue(0 <= f < book[0])
            self.assertTrue(does_bear(book, f))
            self.assertFalse(does_bear(book, f + 1))
            self.assert_paper(book, f + 1, paper)

    def test_most_borne_of_one_house(self):
        told = most_borne((1, ((0,),)))
        self.assertEqual(told[0], 0)
        self.assertIn(told[1], (("stuck", (0,)), ("blind", (0,), (0,))))


class PapersOfAnybody(unittest.TestCase):
    def test_stuck(self):
        for gone, awaited in (((), False), ((0,), False), ((0, 1), True), ((1, 2), True), ((0, 1, 2), True)):
            self.assertIs(is_stuck(MOST_OF_THREE, gone), awaited)
        self.assertIs(is_stuck(ALONE, (1, 2)), False)
        self.assertIs(is_stuck(ALONE, (0,)), True)

    def test_blind(self):
        self.assertIs(is_blind(MOST_OF_THREE, (0, 1), (0, 1)), True)
        self.assertIs(is_blind(MOST_OF_THREE, (0, 1, 2), (0, 2)), True)
        self.assertIs(is_blind(MOST_OF_THREE, (0, 1), (0, 2)), False)
        self.assertIs(is_blind(MOST_OF_THREE, (0,), (0, 1)), False)
        self.assertIs(is_blind(MOST_OF_THREE, (), (0, 1)), False)

    def test_blind_by_what_is_no_set_of_the_book(self):
        for one in ((), (0,), (1, 0), (0, 0), (0, 1, 2), (3,), (-1,), (0, 3), (HUGE, -HUGE), (0, 1, 1)):
            self.assertIs(is_blind(MOST_OF_THREE, (0, 1, 2), one), False, one)

    def test_blind_by_the_words(self):
        source = random.Random(107)
        for _ in range(30):
            book = chance_book(source)
            for gone in subsets(book[0]):
                for one in book[1] + ((), (0,), (0, 9)):
                    awaited = one in book[1] and set(one) <= set(gone)
                    self.assertIs(is_blind(book, gone, one), awaited)


class Refusals(unittest.TestCase):
    def assert_refused(self, error, book, gone, pool=None):
        if pool is None:
            pool = gone
        for ask in (
            lambda: free_set(book, gone), lambda: unmet_set(book, pool), lambda: is_stuck(book, gone),
            lambda: is_blind(book, gone, (0, 1)),
        ):
            with self.assertRaises(error):
                ask()

    def test_no_book_goes_first(self):
        for book in NO_BOOKS + tuple(other_things()):
            for houses in ((0,), (), (1, 0), (9,)):
                self.assert_refused(NoBook, book, houses)
            for f in (0, 1, 99):
                with self.assertRaises(NoBook):
                    bears(book, f)
            with self.assertRaises(NoBook):
                most_borne(book)

    def test_houses_that_are_none_or_not_rising(self):
        for houses in NOT_RISING_HOUSES + ((True,), (0, True)):
            self.assert_refused(NoHouse, MOST_OF_THREE, houses)

    def test_a_pool_of_none_but_none_gone(self):
        with self.assertRaises(NoHouse):
            unmet_set(MOST_OF_THREE, ())
        self.assertIsNotNone(free_set(MOST_OF_THREE, ()))
        self.assertIs(is_stuck(MOST_OF_THREE, ()), False)
        self.assertIs(is_blind(MOST_OF_THREE, (), (0, 1)), False)

    def test_houses_by_the_books_own_number(self):
        self.assertEqual(free_set((9, ((0, 8),)), (1, 7)), (0, 8))
        self.assertIsNone(unmet_set((9, ((0, 8),)), (8,)))
        self.assert_refused(NoHouse, (8, ((0, 7),)), (8,))
        self.assert_refused(NoHouse, (2, ((0, 1),)), (0, 2))

    def test_a_loop_is_no_book(self):
        self.assert_refused(NoBook, (3, endless_list()), (0,))


if __name__ == "__main__":
    unittest.main()

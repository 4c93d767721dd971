"""Points 2 and 7: deeds, and when one may be done."""

import copy
import itertools
import unittest

from lendwharf.deeds import done
from lendwharf.errors import NoDeed, NoHouse, Short
from lendwharf.tables import bare, is_table, rights, stock

from tests.samples import (
    HUGE, RIGHTS_OF_THREE, THREE, many_tables, rights_by_the_words, small_tables, with_number,
)

NO_DEEDS = (
    (), ("make",), ("lend",), ("use",), ("make", 0), ("use", 0), ("lend", 0), ("lend", 0, 1),
    ("make", 0, 1, 1), ("use", 0, 1, 1), ("lend", 0, 1, 1, 1), ("make", 0, 1, 1, 1),
    ("keep", 0), ("fall", 0), ("send", 0), ("come", 0, 1), ("give", 0, 1), ("give", 0, 1, 1),
    ("Make", 0, 1), ("MAKE", 0, 1), ("make ", 0, 1), ("makes", 0, 1), ("", 0, 1), ("used", 0, 1),
    (0, 1), (0, 0, 1), (0, 1, "make"), (1, 2, 3, 4), ("make", "make", 1),
    ("make", 0, 0), ("use", 0, 0), ("lend", 0, 1, 0),
    ("make", 0, -1), ("use", 0, -1), ("lend", 0, 1, -1),
    ("make", 0, -HUGE), ("use", 0, -HUGE), ("lend", 0, 1, -HUGE),
)

NO_HOUSES = (
    ("make", -1, 1), ("make", 3, 1), ("make", HUGE, 1), ("make", -HUGE, 1), ("make", -3, 1),
    ("use", -1, 1), ("use", 3, 1), ("use", 4, 1), ("use", HUGE, 1), ("use", -3, 1),
    ("lend", -1, 1, 1), ("lend", 3, 1, 1), ("lend", 0, -1, 1), ("lend", 0, 3, 1),
    ("lend", 0, 4, 1), ("lend", 0, -2, 1), ("lend", -3, 1, 1), ("lend", HUGE, -HUGE, 1),
    ("lend", 0, 0, 1), ("lend", 1, 1, 1), ("lend", 2, 2, 1), ("lend", 3, 3, 1),
)


def place_by_the_words(n, deed):
    """Point 4: at which number of the row each kind of deed is counted."""
    return {"make": deed[1], "lend": deed[2], "use": n}[deed[0]]


def deeds_of_amount(n, k):
    for house in range(n):
        yield ("make", house, k)
        yield ("use", house, k)
    for house, to in itertools.permutations(range(n), 2):
        yield ("lend", house, to, k)


class Done(unittest.TestCase):
    def test_make(self):
        self.assertEqual(done(THREE, ("make", 1, 5)), ((10, 4, 1, 2), (2, 8, 0, 5), (6, 0, 0, 0)))

    def test_lend(self):
        self.assertEqual(done(THREE, ("lend", 0, 2, 5)), ((10, 4, 6, 2), (2, 3, 0, 5), (6, 0, 0, 0)))
        self.assertEqual(done(THREE, ("lend", 0, 1, 1)), ((10, 5, 1, 2), (2, 3, 0, 5), (6, 0, 0, 0)))

    def test_use(self):
        self.assertEqual(done(THREE, ("use", 0, 5)), ((10, 4, 1, 7), (2, 3, 0, 5), (6, 0, 0, 0)))

    def test_one_house_alone(self):
        table = done(bare(1), ("make", 0, 2))
        self.assertEqual(table, ((2, 0),))
        self.assertEqual(done(table, ("use", 0, 2)), ((2, 2),))

    def test_one_right_each_place_alone_is_raised(self):
        for table in many_tables():
            n = len(table)
            for deed in deeds_of_amount(n, 1):
                house = deed[1]
                had = rights_by_the_words(table, house)
                if deed[0] == "make" or had >= 1:
                    place = place_by_the_words(n, deed)
                    awaited = with_number(table, house, place, table[house][place] + 1)
                    behind = done(table, deed)
                    self.assertEqual(behind, awaited)
                    self.assertIs(is_table(behind), True)
                else:
                    self.assert_short(table, deed, had)

    def assert_short(self, table, deed, had):
        with self.assertRaises(Short) as caught:
            done(table, deed)
        self.assertEqual(caught.exception.had, had)

    def test_all_it_has_and_one_more(self):
        for table in many_tables():
            n = len(table)
            for house in range(n):
                had = rights_by_the_words(table, house)
                ways = [("use", house)]
                ways += [("lend", house, to) for to in range(n) if to != house]
                for way in ways:
                    if had >= 1:
                        self.assertEqual(rights(done(table, way + (had,)), house), 0)
                    self.assert_short(table, way + (max(had, 0) + 1,), had)

    def test_short_tells_rights_at_and_below_nought(self):
        self.assert_short(THREE, ("use", 0, 12), 11)
        self.assert_short(THREE, ("lend", 0, 1, HUGE), 11)
        self.assert_short(THREE, ("use", 1, 1), 0)
        self.assert_short(THREE, ("lend", 1, 2, 1), 0)
        self.assert_short(THREE, ("use", 2, 1), -5)
        self.assert_short(THREE, ("lend", 2, 0, 1), -5)

    def test_a_making_needs_no_rights(self):
        for house, had in enumerate(RIGHTS_OF_THREE):
            behind = done(THREE, ("make", house, HUGE))
            self.assertEqual(rights(behind, house), had + HUGE)
        for n in range(1, 9):
            self.assertEqual(rights(done(bare(n), ("make", n - 1, 1)), n - 1), 1)

    def test_what_rights_and_stock_become(self):
        for table in small_tables(2, 2):
            for deed in deeds_of_amount(2, 2):
                house = deed[1]
                if deed[0] != "make" and rights_by_the_words(table, house) < 2:
                    continue
                behind = done(table, deed)
                own, other, whole = {"make": (2, 0, 2), "lend": (-2, 2, 0), "use": (-2, 0, -2)}[deed[0]]
                self.assertEqual(rights(behind, house), rights(table, house) + own)
                self.assertEqual(rights(behind, 1 - house), rights(table, 1 - house) + other)
                self.assertEqual(stock(behind), stock(table) + whole)

    def test_numbers_of_thirty_one_figures(self):
        table = done(bare(2), ("make", 0, HUGE))
        table = done(table, ("make", 0, HUGE))
        self.assert_short(done(table, ("lend", 0, 1, HUGE)), ("use", 1, HUGE + 1), HUGE)
        table = done(table, ("lend", 0, 1, HUGE))
        table = done(table, ("use", 1, HUGE - 1))
        self.assertEqual(table, ((2 * HUGE, HUGE, 0), (0, 0, HUGE - 1)))

    def test_other_houses_rights_are_of_no_help(self):
        table = ((9, 0, 0), (0, 1, 0))
        self.assert_short(table, ("use", 1, 2), 1)
        self.assert_short(table, ("lend", 1, 0, 2), 1)


class Refused(unittest.TestCase):
    def test_no_deeds(self):
        for deed in NO_DEEDS:
            with self.subTest(deed=deed):
                with self.assertRaises(NoDeed):
                    done(THREE, deed)

    def test_things_of_other_kinds_are_no_deeds(self):
        wrong = (
            ["make", 0, 1], "make", None, 3, ("make", True, 1), ("make", 0, True), ("make", None, 1),
            ("lend", 0, "1", 1), (["make"], 0, 1), (None, 0, 1), (("make", 0, 1),), ("use", 0, (1,)),
        )
        for deed in wrong:
            with self.subTest(deed=deed):
                with self.assertRaises(NoDeed):
                    done(THREE, deed)

    def test_no_houses(self):
        for deed in NO_HOUSES:
            with self.subTest(deed=deed):
                with self.assertRaises(NoHouse):
                    done(THREE, deed)

    def test_one_house_alone_lends_to_nobody(self):
        for to in (0, 1):
            with self.assertRaises(NoHouse):
                done(((5, 0),), ("lend", 0, to, 1))

    def test_no_deed_goes_ahead_of_no_house(self):
        for deed in NO_HOUSES:
            for k in (0, -1):
                with self.assertRaises(NoDeed):
                    done(THREE, deed[:-1] + (k,))
        for deed in (("give", 9, 1), ("make", 9), ("lend", 9, 1), ("use", 9, 9, 1), ("lend", 0, 0)):
            with self.assertRaises(NoDeed):
                done(THREE, deed)

    def test_no_deed_goes_ahead_of_short(self):
        for deed in (("use", 2, 0), ("lend", 2, 0, -1), ("use", 2, 1, 1), ("lend", 2, 1)):
            with self.assertRaises(NoDeed):
                done(THREE, deed)

    def test_no_house_goes_ahead_of_short(self):
        deeds = (
            ("lend", 1, 1, 1), ("lend", 2, 2, HUGE), ("lend", 1, 3, 1), ("lend", 2, -1, 1),
            ("lend", 3, 1, HUGE), ("use", 3, HUGE), ("use", -1, HUGE),
        )
        for deed in deeds:
            with self.assertRaises(NoHouse):
                done(THREE, deed)

    def test_the_table_handed_in_stays(self):
        before = copy.deepcopy(THREE)
        for deed in (("make", 0, 1), ("lend", 0, 1, 1), ("use", 0, 1)):
            self.assertNotEqual(done(THREE, deed), THREE)
            self.assertEqual(THREE, before)
        for deed in (("make", 9, 1), ("lend", 0, 0, 1), ("use", 1, 1), ("use",)):
            with self.assertRaises((NoDeed, NoHouse, Short)):
                done(THREE, deed)
            self.assertEqual(THREE, before)

    def test_a_refusal_leaves_nothing_behind(self):
        with self.assertRaises(Short):
            done(THREE, ("use", 0, 12))
        self.assertEqual(done(THREE, ("use", 0, 11)), with_number(THREE, 0, 3, 13))


if __name__ == "__main__":
    unittest.main()

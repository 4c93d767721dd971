"""Points 2, 12 and 13: runs of deeds and letters, and what holds behind each deed."""

import copy
import random
import unittest

from lendwharf.comes import comes_about
from lendwharf.errors import NoDeed, NoHouse, NoLetter, NoTable
from lendwharf.runs import played
from lendwharf.tables import bare, is_table, joined, stock

from tests.samples import HUGE, NO_TABLES, chance_run, grown_table, rights_by_the_words, with_number

START = ((5, 2, 0, 0), (0, 0, 0, 1), (0, 0, 3, 0))

OF_NO_KIND = (
    (), ("make",), ("make", 0), ("make", 0, 1, 1), ("lend", 0, 1), ("lend", 0, 1, 1, 1), ("use", 0),
    ("use", 0, 1, 1), ("keep",), ("keep", 0, 1), ("fall",), ("fall", 0, 0), ("send",), ("send", 0, 1),
    ("come",), ("come", 0), ("come", 0, 1, 1), ("Keep", 0), ("", 0), ("give", 0, 1), (0, "keep"), (0, 1),
    ("make", 0, 0), ("make", 0, -1), ("lend", 0, 1, 0), ("lend", 0, 1, -HUGE), ("use", 0, 0), ("use", 0, -1),
    ("keep", "0"), ("fall", None), ("send", (0,)), ("come", "0", 1), ("come", 0, None),
)

OF_NO_HOUSE = (
    ("make", 3, 1), ("make", -1, 1), ("lend", 3, 0, 1), ("lend", 0, 3, 1), ("lend", -1, 0, 1), ("lend", 0, -1, 1),
    ("lend", 0, 0, 1), ("lend", 2, 2, HUGE), ("use", 3, 1), ("use", -1, 1), ("keep", 3), ("keep", -1),
    ("fall", 3), ("fall", -3), ("send", 3), ("send", -1), ("send", HUGE), ("come", 0, 3), ("come", 0, -1),
)


class Oracle:
    """The words of points 10 to 12, with tables as lists."""

    def __init__(self, table):
        self.now = [self.copied(table) for _ in table]
        self.kept = [self.copied(table) for _ in table]
        self.letters = []

    def copied(self, table):
        return [list(row) for row in table]

    def do(self, kind, *numbers):
        refused = getattr(self, kind)(*numbers)
        return "done" if refused is None else refused

    def make(self, house, k):
        self.now[house][house][house] += k

    def lend(self, house, to, k):
        return self.spend(house, to, k)

    def use(self, house, k):
        return self.spend(house, -1, k)

    def spend(self, house, place, k):
        had = rights_by_the_words(self.now[house], house)
        if had < k:
            return had
        self.now[house][house][place] += k
        return None

    def keep(self, house):
        self.kept[house] = self.copied(self.now[house])

    def fall(self, house):
        self.now[house] = self.copied(self.kept[house])

    def send(self, house):
        self.letters.append(self.copied(self.kept[house]))

    def come(self, number, house):
        for own, its in zip(self.now[house], self.letters[number]):
            own[:] = [max(pair) for pair in zip(own, its)]

    def tables(self):
        return [tuple(map(tuple, table)) for table in self.now]


class Played(unittest.TestCase):
    def test_no_deeds(self):
        self.assertEqual(played(START, []), ([], [START] * 3))
        self.assertEqual(played(((0, 0),), []), ([], [((0, 0),)]))

    def test_each_kind(self):
        answers, tables = played(START, [
            ("make", 0, 4), ("lend", 0, 2, 6), ("keep", 0), ("send", 0), ("come", 0, 2), ("use", 2, 9), ("fall", 1),
        ])
        self.assertEqual(answers, ["done"] * 7)
        lent = ((9, 2, 6, 0), (0, 0, 0, 1), (0, 0, 3, 0))
        self.assertEqual(tables, [lent, START, with_number(lent, 2, 3, 9)])

    def test_short_is_answered_by_the_rights(self):
        answers, tables = played(START, [
            ("use", 0, 4), ("lend", 0, 1, 4), ("lend", 0, 1, 3), ("use", 0, 1), ("use", 1, HUGE), ("make", 0, 1),
        ])
        self.assertEqual(answers, [3, 3, "done", 0, 1, "done"])
        self.assertEqual(tables, [((6, 5, 0, 0),) + START[1:], START, START])

    def test_a_fall_between(self):
        answers, tables = played(bare(2), [
            ("make", 0, 5), ("keep", 0), ("lend", 0, 1, 2), ("send", 0), ("fall", 0), ("come", 0, 1), ("use", 1, 1),
            ("lend", 0, 1, 5), ("use", 0, 1), ("keep", 0), ("send", 0), ("come", 1, 1), ("use", 1, 5), ("fall", 1),
            ("use", 1, 1),
        ])
        self.assertEqual(answers, ["done"] * 6 + [0, "done", 0] + ["done"] * 5 + [0])
        self.assertEqual(tables, [((5, 5, 0), (0, 0, 0)), bare(2)])

    def test_letters_twice_and_behind_later_ones(self):
        deeds = [
            ("make", 0, 9), ("lend", 0, 1, 1), ("keep", 0), ("send", 0), ("lend", 0, 1, 2), ("keep", 0), ("send", 0),
            ("come", 1, 1), ("come", 0, 1), ("come", 1, 1), ("come", 0, 1), ("use", 1, 4),
        ]
        answers, tables = played(bare(2), deeds)
        self.assertEqual(answers, ["done"] * 11 + [3])
        self.assertEqual(tables, [((9, 3, 0), (0, 0, 0))] * 2)

    def test_letters_are_numbered_through_all_houses(self):
        deeds = [
            ("make", 0, 1), ("make", 1, 2), ("keep", 0), ("keep", 1), ("send", 0), ("send", 1),
            ("come", 0, 2), ("fall", 2), ("come", 1, 2),
        ]
        self.assertEqual(played(bare(3), deeds)[1][2], with_number(bare(3), 1, 1, 2))

    def test_a_letter_is_as_it_was_when_sent(self):
        deeds = [("make", 0, 1), ("keep", 0), ("send", 0), ("make", 0, 1), ("keep", 0), ("come", 0, 1)]
        self.assertEqual(played(bare(2), deeds)[1], [with_number(bare(2), 0, 0, 2), with_number(bare(2), 0, 0, 1)])

    def test_a_letter_comes_to_its_own_house(self):
        deeds = [("make", 0, 1), ("send", 0), ("make", 0, 1), ("come", 0, 0)]
        self.assertEqual(played(bare(1), deeds), (["done"] * 4, [((2, 0),)]))

    def test_by_the_words(self):
        source = random.Random(12)
        for n in range(1, 9):
            for most in (2, 10 ** 25):
                start = grown_table(n, 10, most, source)
                deeds = chance_run(n, 300, most, source)
                oracle = Oracle(start)
                awaited = [oracle.do(*deed) for deed in deeds]
                self.assertEqual(played(start, deeds), (awaited, oracle.tables()))

    def test_a_thousand_deeds(self):
        deeds = chance_run(8, 1000, 10 ** 25, random.Random(13))
        answers, tables = played(bare(8), deeds)
        self.assertEqual((len(answers), len(tables)), (1000, 8))
        self.assertGreater(sum(answer != "done" for answer in answers), 10)

    def test_amounts_beyond_are_not_refused(self):
        self.assertEqual(played(((0, 0),), [("make", 0, HUGE), ("use", 0, HUGE)]), (["done"] * 2, [((HUGE, HUGE),)]))

    def test_what_is_handed_in_stays_and_what_is_told_is_new(self):
        deeds = [("make", 0, 1), ("keep", 0), ("send", 0), ("come", 0, 1)]
        before = copy.deepcopy(deeds)
        told = played(START, deeds)
        self.assertEqual(deeds, before)
        again = played(START, deeds)
        self.assertEqual(told, again)
        told[0].clear()
        told[1].clear()
        self.assertEqual(played(START, deeds), again)
        self.assertIsInstance(told, tuple)


class Refused(unittest.TestCase):
    def assert_refused(self, error, deeds, table=START):
        with self.assertRaises(error):
            played(table, deeds)

    def test_of_no_kind(self):
        for deed in OF_NO_KIND:
            with self.subTest(deed=deed):
                self.assert_refused(NoDeed, [("send", 0), deed])

    def test_of_no_house(self):
        for deed in OF_NO_HOUSE:
            with self.subTest(deed=deed):
                self.assert_refused(NoHouse, [("send", 0), deed])

    def test_of_no_letter(self):
        for number in (0, 1, -1, HUGE, -HUGE):
            self.assert_refused(NoLetter, [("come", number, 0)])
        for number in (2, 3, -1, -2):
            self.assert_refused(NoLetter, [("send", 0), ("send", 1), ("come", number, 0)])
        self.assert_refused(NoLetter, [("come", 0, 1), ("send", 0)])
        self.assertEqual(played(START, [("send", 0), ("send", 1), ("come", 1, 0)])[0], ["done"] * 3)

    def test_two_in_one_deed(self):
        for deed in (("make", 9, 0), ("lend", 1, 1, 0), ("lend", 9, 9, -1), ("use", -1, 0), ("keep", 9, 9), ("come", 9)):
            self.assert_refused(NoDeed, [deed])
        for deed in (("come", 0, 3), ("come", -1, -1), ("come", HUGE, HUGE), ("lend", 1, 1, HUGE), ("use", 3, HUGE)):
            self.assert_refused(NoHouse, [deed])

    def test_deed_by_deed(self):
        self.assert_refused(NoLetter, [("come", 0, 0), ("give", 0), ("keep", 9)])
        self.assert_refused(NoHouse, [("keep", 9), ("give", 0), ("come", 0, 0)])
        self.assert_refused(NoDeed, [("give", 0), ("keep", 9), ("come", 0, 0)])

    def test_a_refusal_behind_good_deeds(self):
        good = [("make", 0, 5), ("use", 0, 99), ("keep", 0), ("send", 0), ("come", 0, 1), ("fall", 1)]
        for error, deed in ((NoDeed, ("use", 0, 0)), (NoHouse, ("fall", 3)), (NoLetter, ("come", 1, 1))):
            self.assert_refused(error, good + [deed])
            self.assert_refused(error, good + [deed] + good)

    def test_a_start_that_does_not_come_about(self):
        for table in (((3, 4),), ((0, 5, 0), (5, 0, 0))) + NO_TABLES:
            for deeds in ([], [("make", 0, 9)], [("give", 0)], [("keep", 9)], [("come", 0, 0)]):
                self.assert_refused(NoTable, deeds, table)


class BehindEachDeed(unittest.TestCase):
    def on_the_way(self, tables, house, to):
        return tables[house][house][to] - tables[to][house][to]

    def assert_point_13(self, tables):
        n = len(tables)
        ways = [(house, to) for house in range(n) for to in range(n) if house != to]
        whole = tables[0]
        for number, table in enumerate(tables):
            self.assertIs(is_table(table), True)
            self.assertGreaterEqual(rights_by_the_words(table, number), 0)
            self.assertEqual(comes_about(table)[0], "comes")
            whole = joined(whole, table)
        self.assertEqual(comes_about(whole)[0], "comes")
        going = [self.on_the_way(tables, house, to) for house, to in ways]
        self.assertTrue(all(number >= 0 for number in going))
        held = [rights_by_the_words(table, number) for number, table in enumerate(tables)]
        self.assertEqual(sum(held) + sum(going), stock(whole))
        return sum(going)

    def test_behind_each_deed_of_runs_of_chance(self):
        source = random.Random(14)
        most_going = 0
        for n in (1, 2, 2, 3, 3, 4, 5, 8):
            for most in (1, 3, 10 ** 25):
                start = grown_table(n, 8, most, source)
                deeds = chance_run(n, 70, most, source)
                for behind in range(len(deeds) + 1):
                    going = self.assert_point_13(played(start, deeds[:behind])[1])
                    most_going = max(most_going, going)
        self.assertGreater(most_going, 0)


if __name__ == "__main__":
    unittest.main()

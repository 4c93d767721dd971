"""Points 2, 10 and 11: a house, what it does, keeps and is told."""

import unittest

from lendwharf.errors import NoDeed, NoHouse, NoLetter, NoTable, Short
from lendwharf.houses import House
from lendwharf.tables import bare, is_table, joined

from tests.samples import HUGE, NO_TABLES, grown_tables, rights_by_the_words, with_number

# House 0 made 10 and lent 4 to house 1 and 1 to house 2; house 1 used 3 of them.
START = ((10, 4, 1, 0), (0, 0, 0, 3), (0, 0, 0, 0))
RIGHTS_OF_START = [5, 1, 1]
NOT_COMING_ABOUT = (((3, 4),), ((0, 5, 0), (5, 0, 0)), ((0, 0, 1), (0, 9, 0)))


def look(house):
    return (house.table(), house.letter(), house.rights(), house.used())


class Standing(unittest.TestCase):
    def test_with_a_told_table(self):
        for number in range(3):
            house = House(number, START)
            self.assertEqual(house.table(), START)
            self.assertEqual(house.letter(), START)
            self.assertEqual(house.rights(), RIGHTS_OF_START[number])
            self.assertEqual(house.used(), (START[number][3], START[number][3]))

    def test_all_tables_that_come_about(self):
        for table in grown_tables(60, 21):
            for number in range(len(table)):
                house = House(number, table)
                self.assertEqual(house.table(), table)
                self.assertEqual(house.rights(), rights_by_the_words(table, number))

    def test_no_table(self):
        for table in NOT_COMING_ABOUT + NO_TABLES:
            with self.assertRaises(NoTable):
                House(0, table)

    def test_no_house(self):
        for table in (START, bare(1), bare(8)):
            n = len(table)
            for number in (-1, -n, n, n + 1, HUGE, -HUGE):
                with self.assertRaises(NoHouse):
                    House(number, table)

    def test_no_table_goes_ahead_of_no_house(self):
        for table in NOT_COMING_ABOUT:
            for number in (-1, len(table), HUGE):
                with self.assertRaises(NoTable):
                    House(number, table)

    def test_two_houses_stand_apart(self):
        one = House(0, START)
        other = House(0, START)
        one.make(5)
        one.keep()
        self.assertEqual(look(other), look(House(0, START)))


class Deeds(unittest.TestCase):
    def assert_refused(self, house, error, deed):
        before = look(house)
        with self.assertRaises(error) as caught:
            deed()
        self.assertEqual(look(house), before)
        return caught.exception

    def test_make(self):
        house = House(1, START)
        self.assertIsNone(house.make(7))
        self.assertEqual(house.table(), with_number(START, 1, 1, 7))
        self.assertEqual(house.rights(), 8)
        house.make(HUGE)
        self.assertEqual(house.rights(), 8 + HUGE)

    def test_lend(self):
        house = House(0, START)
        self.assertIsNone(house.lend(2, 4))
        self.assertEqual(house.table(), with_number(START, 0, 2, 5))
        self.assertEqual(house.rights(), 1)

    def test_use(self):
        house = House(0, START)
        self.assertIsNone(house.use(2))
        self.assertEqual(house.table(), with_number(START, 0, 3, 2))
        self.assertEqual(house.rights(), 3)

    def test_all_it_has_and_one_more(self):
        for number, had in enumerate(RIGHTS_OF_START):
            to = (number + 1) % 3
            lender, user = House(number, START), House(number, START)
            self.assertEqual(self.assert_refused(lender, Short, lambda: lender.lend(to, had + 1)).had, had)
            self.assertEqual(self.assert_refused(user, Short, lambda: user.use(had + 1)).had, had)
            lender.lend(to, had)
            user.use(had)
            for house in (lender, user):
                self.assertEqual(house.rights(), 0)
                self.assertEqual(self.assert_refused(house, Short, lambda: house.lend(to, 1)).had, 0)
                self.assertEqual(self.assert_refused(house, Short, lambda: house.use(HUGE)).had, 0)

    def test_amounts_below_one(self):
        for k in (0, -1, -HUGE):
            house = House(0, START)
            for deed in (lambda: house.make(k), lambda: house.use(k), lambda: house.lend(1, k)):
                self.assert_refused(house, NoDeed, deed)

    def test_to_nobody(self):
        for number in range(3):
            house = House(number, START)
            for to in (number, -1, 3, -3, number - 3, HUGE, -HUGE):
                self.assert_refused(house, NoHouse, lambda: house.lend(to, 1))
        alone = House(0, ((5, 0),))
        for to in (0, 1):
            self.assert_refused(alone, NoHouse, lambda: alone.lend(to, 1))

    def test_which_refusal_goes_first(self):
        house = House(1, START)
        for to in (1, 3, -1):
            self.assert_refused(house, NoHouse, lambda: house.lend(to, HUGE))
            for k in (0, -1):
                self.assert_refused(house, NoDeed, lambda: house.lend(to, k))
        poor = House(1, bare(2))
        self.assert_refused(poor, NoHouse, lambda: poor.lend(1, 1))
        self.assert_refused(poor, NoDeed, lambda: poor.lend(1, 0))
        self.assert_refused(poor, NoDeed, lambda: poor.use(0))

    def test_its_own_row_alone_is_raised(self):
        for table in grown_tables(60, 22):
            for number in range(len(table)):
                house = House(number, table)
                house.make(3)
                house.use(1)
                if len(table) > 1:
                    house.lend((number + 1) % len(table), 2)
                behind = house.table()
                self.assertIs(is_table(behind), True)
                self.assertEqual(behind[:number], table[:number])
                self.assertEqual(behind[number + 1:], table[number + 1:])
                self.assertNotEqual(behind[number], table[number])


class Keeping(unittest.TestCase):
    def test_the_letter_is_the_last_kept_table(self):
        house = House(0, START)
        house.use(1)
        self.assertEqual(house.letter(), START)
        self.assertIsNone(house.keep())
        kept = with_number(START, 0, 3, 1)
        self.assertEqual(house.letter(), kept)
        house.make(4)
        house.lend(1, 2)
        self.assertEqual(house.letter(), kept)
        house.keep()
        self.assertEqual(house.letter(), house.table())
        self.assertEqual(house.letter(), ((14, 6, 1, 1),) + START[1:])

    def test_a_fall_takes_back_what_was_not_kept(self):
        house = House(0, START)
        house.use(2)
        house.keep()
        house.use(3)
        house.make(9)
        self.assertIsNone(house.fall())
        self.assertEqual(house.table(), with_number(START, 0, 3, 2))
        self.assertEqual(house.rights(), 3)
        house.fall()
        self.assertEqual(house.table(), with_number(START, 0, 3, 2))
        house.use(3)
        self.assertEqual(house.rights(), 0)

    def test_a_fall_ahead_of_any_keeping(self):
        house = House(0, START)
        house.use(5)
        house.fall()
        self.assertEqual(look(house), look(House(0, START)))

    def test_letters_are_kept_and_fall_like_deeds(self):
        news = with_number(START, 1, 3, 4)
        house = House(0, START)
        house.come(news)
        house.fall()
        self.assertEqual(house.table(), START)
        house.come(news)
        self.assertEqual(house.letter(), START)
        house.keep()
        self.assertEqual(house.letter(), news)
        house.fall()
        self.assertEqual(house.table(), news)

    def test_used_kept_and_now(self):
        house = House(1, START)
        self.assertEqual(house.used(), (3, 3))
        house.use(1)
        self.assertEqual(house.used(), (3, 4))
        house.keep()
        self.assertEqual(house.used(), (4, 4))
        house.make(2)
        house.use(2)
        self.assertEqual(house.used(), (4, 6))
        house.fall()
        self.assertEqual(house.used(), (4, 4))
        self.assertIsInstance(house.used(), tuple)


class Letters(unittest.TestCase):
    def test_joined_to_its_table(self):
        lender = House(0, START)
        lender.lend(1, 3)
        lender.keep()
        taker = House(1, START)
        taker.use(1)
        own = taker.table()
        self.assertIsNone(taker.come(lender.letter()))
        self.assertEqual(taker.table(), joined(own, lender.letter()))
        self.assertEqual(taker.rights(), 3)

    def test_late_and_again(self):
        lender = House(0, START)
        letters = []
        for k in (1, 1, 2):
            lender.lend(1, k)
            lender.keep()
            letters.append(lender.letter())
        taker = House(1, START)
        for number, awaited in ((1, 3), (0, 3), (1, 3), (2, 5), (0, 5), (2, 5), (1, 5)):
            taker.come(letters[number])
            self.assertEqual(taker.rights(), awaited)

    def test_its_own_letters_come_back(self):
        house = House(0, START)
        house.use(1)
        house.keep()
        letter = house.letter()
        house.use(1)
        house.come(letter)
        house.come(START)
        self.assertEqual(house.table(), with_number(START, 0, 3, 2))

    def test_any_table_that_says_no_more_of_it(self):
        strange = ((10, 0, 0, 0), (9, 9, 9, 9), (0, HUGE, 7, 0))
        house = House(0, START)
        house.come(strange)
        self.assertEqual(house.table(), ((10, 4, 1, 0), (9, 9, 9, 9), (0, HUGE, 7, 0)))
        self.assertEqual(house.rights(), 14)

    def test_no_letter(self):
        for number in range(3):
            for place in range(4):
                wrong = with_number(START, number, place, START[number][place] + 1)
                house = House(number, START)
                with self.assertRaises(NoLetter):
                    house.come(wrong)
                self.assertEqual(look(house), look(House(number, START)))
                for other in range(3):
                    if other != number:
                        House(other, START).come(wrong)

    def test_no_letter_of_what_it_did_but_fell(self):
        house = House(0, START)
        house.use(1)
        then = house.table()
        house.fall()
        with self.assertRaises(NoLetter):
            house.come(then)
        self.assertEqual(house.table(), START)

    def test_a_lesser_number_beside_a_greater_one_is_no_letter_either(self):
        house = House(0, START)
        with self.assertRaises(NoLetter):
            house.come(((0, 0, 0, 1), (0, 9, 0, 0), (0, 0, 9, 0)))
        self.assertEqual(look(house), look(House(0, START)))

    def test_tables_of_another_number_of_houses(self):
        for n in (1, 2, 4, 8):
            for table in (bare(n), ((HUGE,) * (n + 1),) * n):
                for number in range(3):
                    house = House(number, START)
                    with self.assertRaises(NoTable):
                        house.come(table)
                    self.assertEqual(look(house), look(House(number, START)))

    def test_no_rights_below_nought_by_letters(self):
        table = ((5, 3, 0), (0, 0, 3))
        house = House(1, table)
        with self.assertRaises(Short) as caught:
            house.use(1)
        self.assertEqual(caught.exception.had, 0)
        house.come(((9, 4, 2), (0, 0, 0)))
        house.use(1)
        self.assertEqual(house.table(), ((9, 4, 2), (0, 0, 4)))


if __name__ == "__main__":
    unittest.main()

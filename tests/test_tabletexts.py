"""Points 2, 4 and 29: a table's text, and a text read back."""

import random
import unittest

from lendwharf.errors import NoText
from lendwharf.tables import bare, is_table
from lendwharf.tabletexts import read_table, show_table

from tests.samples import HUGE, THREE, chance_tables, many_tables, with_number


def text_by_the_words(table):
    return " / ".join(" ".join(str(number) for number in row) for row in table)


def is_text_by_the_words(text):
    """Of all texts just those that some table is written as."""
    rows = [row.split(" ") for row in text.split(" / ")]
    if not all(word.isascii() and word.isdigit() and str(int(word)) == word for row in rows for word in row):
        return False
    return len(rows) <= 8 and all(len(row) == len(rows) + 1 for row in rows)


class ShowTable(unittest.TestCase):
    def test_by_hand(self):
        self.assertEqual(show_table(((0, 0),)), "0 0")
        self.assertEqual(show_table(((12, 5),)), "12 5")
        self.assertEqual(show_table(THREE), "10 4 1 2 / 2 3 0 5 / 6 0 0 0")
        self.assertEqual(show_table(bare(2)), "0 0 0 / 0 0 0")

    def test_numbers_of_all_lengths(self):
        for figures in (1, 2, 17, 18, 19, 30, 31, 32, 35, 36, 37, 54, 100):
            for number in (10 ** (figures - 1), 10 ** figures - 1, int("1" + "0" * (figures - 1)) + 7):
                self.assertEqual(show_table(((number, 0),)), str(number) + " 0")
                self.assertEqual(read_table(str(number) + " 0"), ((number, 0),))

    def test_many(self):
        for table in many_tables():
            text = show_table(table)
            self.assertEqual(text, text_by_the_words(table))
            self.assertIs(text.__class__, str)


class ReadTable(unittest.TestCase):
    def assert_refused(self, *texts):
        for text in texts:
            with self.subTest(text=text[:60]):
                with self.assertRaises(NoText):
                    read_table(text)

    def test_by_hand(self):
        self.assertEqual(read_table("0 0"), ((0, 0),))
        self.assertEqual(read_table("10 4 1 2 / 2 3 0 5 / 6 0 0 0"), THREE)

    def test_what_was_shown_is_read_back(self):
        for table in many_tables():
            told = read_table(show_table(table))
            self.assertEqual(told, table)
            self.assertIs(is_table(told), True)

    def test_thirty_one_figures_and_eight_houses(self):
        table = ((HUGE,) * 9,) * 8
        text = " / ".join([" ".join(["9" * 31] * 9)] * 8)
        self.assertEqual(show_table(table), text)
        self.assertEqual(read_table(text), table)

    def test_a_nought_ahead(self):
        self.assert_refused("00 0", "0 00", "01 0", "0 01", "0 0 0 / 0 0 00", "0 0 0 / 05 0 0", "000 0")

    def test_a_sign_ahead_or_within(self):
        self.assert_refused("+1 0", "-1 0", "0 -0", "0 +0", "1_0 0", "1.0 0", "1e3 0", "0x1 0", "1,0 0", "a 0", "0 a")

    def test_figures_of_other_scripts(self):
        self.assert_refused("\u0661 0", "\u00b2 0", "0 \uff11", "\u096a 0", "\u2460 0")

    def test_blanks(self):
        self.assert_refused("0  0", " 0 0", "0 0 ", "0 0  / 0 0 0", "0 0 0 /  0 0 0", "0 0 0  / 0 0 0", " ", "  ")
        self.assert_refused("0 0 0/0 0 0", "0 0 0 /0 0 0", "0 0 0/ 0 0 0", "0 0 0 / 0 0 0 ", " 0 0 0 / 0 0 0")
        self.assert_refused("0\t0", "0\n0", "0 0\n", "\n0 0", "0\u00a00", "0 0 0 \n/ 0 0 0", "0 0\r")

    def test_strokes(self):
        self.assert_refused("/", " / ", "0 0 /", "0 0 / ", "/ 0 0", " / 0 0", "0 0 0 / / 0 0 0", "0 0 0 /  / 0 0 0")
        self.assert_refused("0 0 0 // 0 0 0", "0 / 0", "0 0 0 | 0 0 0", "0 0 0 / 0 0 0 / ")

    def test_rows_too_long_or_too_short(self):
        self.assert_refused(
            "0", "0 0 0", "0 0 / 0 0", "0 0 0 / 0 0", "0 0 / 0 0 0", "0 0 0 / 0 0 0 0", "0 0 0 0 / 0 0 0",
        )
        self.assert_refused("0 0 0", "0 0 0 / 0 0 0 / 0 0 0", "0 0 / 0", "0 / 0")

    def test_numbers_of_houses(self):
        for n in range(1, 9):
            self.assertEqual(read_table(" / ".join([" ".join(["0"] * (n + 1))] * n)), bare(n))
        for n in (9, 10, 20):
            self.assert_refused(" / ".join([" ".join(["0"] * (n + 1))] * n))

    def test_nothing(self):
        self.assert_refused("")

    def test_no_tables(self):
        self.assert_refused("no table", "((0, 0),)", "(0, 0)", "None", "0 None", "[0 0]")

    def test_very_long_texts(self):
        for length in (4000, 4001, 5000, 9000):
            text = "1" * (length - 2) + " 0"
            table = read_table(text)
            self.assertEqual(table[0][0] % 1000, 111)
            self.assertEqual(table[0][0], (10 ** (length - 2) - 1) // 9)
            self.assertTrue(show_table(table) == text)
            self.assert_refused(
                "0" * (length - 2) + " 0", "0 " * (length // 2), " " * length, "/" * length, "a" * length,
            )
            self.assert_refused(" / " * (length // 3), ("0 0 / " * (length // 6))[:-3])

    def test_texts_one_sign_off(self):
        source = random.Random(151)
        signs = "0123456789 /-+a\n"
        kinds = []
        for n in (1, 2, 3):
            for table in chance_tables(n, 40, 12, 152 + n):
                text = show_table(table)
                at = source.randrange(len(text) + 1)
                for off in (text[:at] + text[at + 1:], text[:at] + source.choice(signs) + text[at:],
                            text[:at] + source.choice(signs) + text[at + 1:]):
                    kinds.append(is_text_by_the_words(off))
                    if is_text_by_the_words(off):
                        self.assertEqual(text_by_the_words(read_table(off)), off)
                    else:
                        self.assert_refused(off)
        self.assertGreater(min(kinds.count(True), kinds.count(False)), 50)

    def test_a_text_for_each_table_and_no_two(self):
        texts = {show_table(with_number(THREE, house, place, 7)) for house in range(3) for place in range(4)}
        self.assertEqual(len(texts), 12)


if __name__ == "__main__":
    unittest.main()

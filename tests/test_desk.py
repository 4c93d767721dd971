"""Points 2, 3, 9, 13, 15, 29 and 30: the desk, its rows and its answers."""

import random
import re
import unittest

from lendwharf.comes import steps
from lendwharf.desk import Desk
from lendwharf.errors import NoDeed, NoHouse, NoLetter, NoName, NoRow, NoTable, TooMany, WharfError
from lendwharf.tables import bare
from lendwharf.tabletexts import read_table, show_table
from lendwharf.views import shows_must

from tests.samples import rights_by_the_words, with_number

THIRTY = "9" * 30
ROWS = {
    "wharf": 1, "make": 2, "use": 2, "lend": 3, "keep": 1, "fall": 1, "send": 1, "come": 2,
    "rights": 1, "table": 1, "world": 2, "stock": 0, "steps": 0,
}


def told(*rows):
    desk = Desk()
    return [desk.say(row) for row in rows]


def all_looks(desk, name, n):
    rows = [f"stock {name}"]
    for house in range(n):
        rows += [f"rights {name} {house}", f"table {name} {house}", f"world {name} {house} 1"]
    return [desk.say(row) for row in rows]


class Model:
    """Points 10 to 15 and 30 by their words, for rows of chance; refusals by their names."""

    def __init__(self):
        self.wharves = {}

    def say(self, row):
        match = re.fullmatch(r"([a-z]+) ([a-z]{1,8})((?: (?:0|[1-9][0-9]{0,29}))*)", row, re.ASCII)
        if match is None or ROWS.get(match[1]) != len(match[3].split()):
            return "NoRow"
        kind, name, numbers = match[1], match[2], [int(word) for word in match[3].split()]
        if kind == "wharf":
            if not 1 <= numbers[0] <= 8:
                return "NoTable"
            self.wharves[name] = ([bare(numbers[0])] * numbers[0], [bare(numbers[0])] * numbers[0], [])
            return "ok"
        if name not in self.wharves:
            return "NoName"
        return self.of_wharf(*self.wharves[name], kind, numbers)

    def join(self, *tables):
        return tuple(tuple(map(max, *rows)) if len(rows) > 1 else rows[0] for rows in zip(*tables))

    def of_wharf(self, now, kept, letters, kind, numbers):
        n = len(now)
        whole = self.join(*now)
        if kind == "stock":
            return str(sum(rights_by_the_words(whole, house) for house in range(n)))
        if kind == "steps":
            number = sum(map(sum, whole))
            return str(number) if number <= 300 else "TooMany"
        if kind in ("make", "use", "lend"):
            return self.of_deed(now, kind, numbers)
        house = numbers[1] if kind == "come" else numbers[0]
        if house >= n:
            return "NoHouse"
        if kind == "come":
            if numbers[0] >= len(letters):
                return "NoLetter"
            now[house] = self.join(now[house], letters[numbers[0]])
            return "ok"
        if kind == "send":
            letters.append(kept[house])
            return str(len(letters) - 1)
        if kind == "keep":
            kept[house] = now[house]
            return "ok"
        if kind == "fall":
            now[house] = kept[house]
            return "ok"
        if kind == "rights":
            return str(rights_by_the_words(now[house], house))
        if kind == "table":
            return show_table(now[house])
        return self.of_world(now[house], house, numbers[1])

    def of_deed(self, now, kind, numbers):
        n = len(now)
        if numbers[-1] < 1:
            return "NoDeed"
        if max(numbers[:-1]) >= n or kind == "lend" and numbers[0] == numbers[1]:
            return "NoHouse"
        house = numbers[0]
        had = rights_by_the_words(now[house], house)
        if kind != "make" and had < numbers[-1]:
            return f"short {had}"
        place = {"make": house, "use": n, "lend": numbers[1]}[kind]
        now[house] = with_number(now[house], house, place, now[house][house][place] + numbers[-1])
        return "done"

    def of_world(self, table, house, k):
        if k < 1:
            return "NoDeed"
        had = rights_by_the_words(table, house)
        return f"may {had}" if had >= k else "must"


def chance_row(source, letters):
    name = source.choice(("a", "a", "a", "a", "bb", "zz"))
    kind = source.choice(tuple(ROWS)[1:] * 6 + ("wharf", "nothing"))
    numbers = [source.choice((0, 0, 1, 1, 2, 3)) for _ in range(ROWS.get(kind, 1))]
    if kind == "wharf":
        numbers = [source.choice((1, 2, 3, 3, 3, 4, 0, 9))]
    if kind in ("make", "lend", "use", "world"):
        numbers[-1] = source.choice((0, 1, 2, 3, 5, 9))
    if kind == "make":
        numbers[-1] = source.choice((0, 1, 5, 9, 20))
    if kind == "come":
        numbers[0] = source.randrange(letters + 2)
    if source.random() < 0.02:
        numbers.append(1)
    return " ".join([kind, name] + [str(number) for number in numbers])


class EachKindOfRow(unittest.TestCase):
    def test_wharf_and_looks_at_it(self):
        answers = told("wharf a 2", "rights a 0", "table a 1", "stock a", "steps a")
        self.assertEqual(answers, ["ok", "0", "0 0 0 / 0 0 0", "0", "0"])

    def test_wharves_of_each_size(self):
        desk = Desk()
        for n in range(1, 9):
            self.assertEqual(desk.say(f"wharf w {n}"), "ok")
            self.assertEqual(desk.say(f"table w {n - 1}"), show_table(bare(n)))
            with self.assertRaises(NoHouse):
                desk.say(f"table w {n}")

    def test_make_use_and_lend(self):
        answers = told(
            "wharf a 3", "make a 0 9", "lend a 0 2 4", "use a 0 1", "table a 0", "rights a 0", "stock a",
            "steps a",
        )
        self.assertEqual(answers, ["ok", "done", "done", "done", "9 0 4 1 / 0 0 0 0 / 0 0 0 0", "4", "8", "14"])

    def test_short_and_the_rights(self):
        answers = told(
            "wharf a 2", "use a 0 1", "make a 0 5", "use a 0 6", "lend a 0 1 6", "use a 0 5", "lend a 0 1 1",
            "rights a 0",
        )
        self.assertEqual(answers, ["ok", "short 0", "done", "short 5", "short 5", "done", "short 0", "0"])

    def test_keep_and_fall(self):
        answers = told(
            "wharf a 1", "make a 0 5", "keep a 0", "use a 0 2", "rights a 0", "fall a 0", "rights a 0",
            "fall a 0", "table a 0",
        )
        self.assertEqual(answers, ["ok", "done", "ok", "done", "3", "ok", "5", "ok", "5 0"])

    def test_send_and_come(self):
        desk = Desk()
        for row in ("wharf a 2", "make a 0 5", "keep a 0", "lend a 0 1 2"):
            desk.say(row)
        # What isn't kept is in no letter.
        self.assertEqual(desk.say("send a 0"), "0")
        self.assertEqual(desk.say("keep a 0"), "ok")
        self.assertEqual(desk.say("send a 0"), "1")
        self.assertEqual(desk.say("come a 0 1"), "ok")
        self.assertEqual(desk.say("table a 1"), "5 0 0 / 0 0 0")
        self.assertEqual(desk.say("come a 1 1"), "ok")
        self.assertEqual(desk.say("rights a 1"), "2")
        self.assertEqual(desk.say("come a 1 1"), "ok")
        self.assertEqual(desk.say("come a 0 1"), "ok")
        self.assertEqual(desk.say("come a 1 0"), "ok")
        self.assertEqual([desk.say("rights a 0"), desk.say("rights a 1"), desk.say("stock a")], ["3", "2", "5"])

    def test_world(self):
        answers = told("wharf a 1", "make a 0 5", "world a 0 5", "world a 0 1", "world a 0 6")
        self.assertEqual(answers[2:], ["may 5", "may 5", "must 5 0"])
        desk = Desk()
        for row in ("wharf a 2", "make a 0 5", "lend a 0 1 2"):
            desk.say(row)
        answer = desk.say("world a 0 4")
        self.assertEqual(answer[:5], "must ")
        self.assertIs(shows_must(((5, 2, 0), (0, 0, 0)), (0,), 4, read_table(answer[5:])), True)
        self.assertEqual(desk.say("world a 1 1")[:5], "must ")

    def test_the_join_of_all(self):
        desk = Desk()
        for row in ("wharf a 2", "make a 0 5", "make a 1 7", "use a 1 3", "lend a 0 1 1"):
            desk.say(row)
        self.assertEqual(desk.say("stock a"), "9")
        self.assertEqual(desk.say("steps a"), "16")
        self.assertEqual(desk.say("table a 0"), "5 1 0 / 0 0 0")

    def test_steps_up_to_300(self):
        desk = Desk()
        desk.say("wharf a 2")
        for row in ("make a 0 100", "lend a 0 1 100", "keep a 0", "send a 0", "come a 0 1", "use a 1 99"):
            desk.say(row)
        self.assertEqual(desk.say("steps a"), "299")
        desk.say("use a 1 1")
        self.assertEqual(desk.say("steps a"), "300")
        whole = read_table(desk.say("table a 1"))
        self.assertEqual(len(steps(whole)), 300)
        desk.say("make a 1 1")
        with self.assertRaises(TooMany):
            desk.say("steps a")


class Wharves(unittest.TestCase):
    def test_letters_are_each_wharfs_own(self):
        answers = told("wharf a 1", "wharf b 1", "send a 0", "send a 0", "send b 0", "send a 0", "send b 0")
        self.assertEqual(answers[2:], ["0", "1", "0", "2", "1"])

    def test_letters_do_not_come_from_another_wharf(self):
        desk = Desk()
        for row in ("wharf a 2", "wharf b 2", "make a 0 5", "keep a 0", "send a 0"):
            desk.say(row)
        with self.assertRaises(NoLetter):
            desk.say("come b 0 1")
        desk.say("send b 0")
        desk.say("come b 0 1")
        self.assertEqual(desk.say("table b 1"), "0 0 0 / 0 0 0")

    def test_told_anew(self):
        desk = Desk()
        for row in ("wharf a 2", "make a 0 5", "send a 1", "wharf b 1", "make b 0 3"):
            desk.say(row)
        self.assertEqual(desk.say("wharf a 3"), "ok")
        self.assertEqual(desk.say("table a 0"), show_table(bare(3)))
        with self.assertRaises(NoLetter):
            desk.say("come a 0 0")
        self.assertEqual(desk.say("send a 2"), "0")
        self.assertEqual(desk.say("rights b 0"), "3")

    def test_an_elder_one_stays_where_the_new_one_is_refused(self):
        desk = Desk()
        for row in ("wharf a 2", "make a 0 5"):
            desk.say(row)
        for number in ("0", "9", "10", THIRTY):
            with self.assertRaises(NoTable):
                desk.say("wharf a " + number)
        self.assertEqual(desk.say("rights a 0"), "5")

    def test_two_desks(self):
        one = Desk()
        other = Desk()
        one.say("wharf a 1")
        with self.assertRaises(NoName):
            other.say("stock a")
        other.say("wharf a 1")
        one.say("make a 0 5")
        self.assertEqual((one.say("stock a"), other.say("stock a")), ("5", "0"))

    def test_names(self):
        for name in ("a", "z", "go", "fall", "wharf", "make", "abcdefgh", "zzzzzzzz"):
            self.assertEqual(told(f"wharf {name} 1", f"make {name} 0 2", f"stock {name}"), ["ok", "done", "2"])


class Numbers(unittest.TestCase):
    def test_thirty_figures(self):
        answers = told(
            "wharf a 1", "make a 0 " + THIRTY, "rights a 0", "make a 0 " + THIRTY, "table a 0",
            "use a 0 " + THIRTY, "stock a",
        )
        twice = str(2 * int(THIRTY))
        self.assertEqual(answers[1:], ["done", THIRTY, "done", twice + " 0", "done", THIRTY])
        self.assertEqual(len(twice), 31)

    def test_worlds_of_great_numbers(self):
        answers = told(
            "wharf a 1", "make a 0 " + THIRTY, "make a 0 1", "world a 0 " + THIRTY, "use a 0 1", "use a 0 1",
            "world a 0 " + THIRTY,
        )
        self.assertEqual(answers[3], "may 1" + "0" * 30)
        self.assertEqual(answers[6], "must 1" + "0" * 30 + " 2")

    def test_thirty_figures_at_other_places(self):
        desk = Desk()
        desk.say("wharf a 2")
        for row in (
            f"make a {THIRTY} 1", f"lend a 0 {THIRTY} 1", f"keep a {THIRTY}", f"come a 0 {THIRTY}",
            f"world a {THIRTY} 0",
        ):
            with self.assertRaises(NoHouse):
                desk.say(row)
        with self.assertRaises(NoLetter):
            desk.say(f"come a {THIRTY} 0")


class Refusals(unittest.TestCase):
    def setUp(self):
        self.desk = Desk()
        for row in (
            "wharf a 2", "make a 0 5", "lend a 0 1 2", "keep a 0", "send a 0", "use a 0 1", "wharf big 1",
            "make big 0 301",
        ):
            self.desk.say(row)

    def assert_refused(self, error, *rows):
        before = all_looks(self.desk, "a", 2)
        for row in rows:
            with self.subTest(row=row):
                with self.assertRaises(error) as raised:
                    self.desk.say(row)
                self.assertIs(raised.exception.__class__, error)
        self.assertEqual(all_looks(self.desk, "a", 2), before)
        self.assertEqual(self.desk.say("send a 0"), "1")
        self.assertEqual(self.desk.say("fall a 0"), "ok")
        self.assertEqual(self.desk.say("table a 0"), "5 2 0 / 0 0 0")

    def test_wrong_numbers_of_words(self):
        for kind, number in ROWS.items():
            rows = [" ".join([kind, "a"] + ["1"] * more) for more in range(6) if more != number]
            self.assert_refused(NoRow, kind, kind + " ", *rows)
            self.setUp()

    def test_no_such_kind(self):
        self.assert_refused(
            NoRow, "", " ", "a", "give a 0 1", "Make a 0 1", "MAKE a 0 1", "makes a 0 1", "letter a 0", "ok",
            "done", "held a",
        )

    def test_blanks(self):
        self.assert_refused(
            NoRow, " stock a", "stock a ", "stock  a", "make a  0 1", "make a 0 1 ", "make a 0  1",
            "stock\ta", "stock a\n",
            "make a 0\n1", "stock\u00a0a", "\nstock a", "make a 0 1\r",
        )

    def test_names_of_other_signs_or_too_long(self):
        for name in ("abcdefghi", "A", "aB", "a1", "1", "a_b", "-", "\u00e9", "\u0430", "", "a."):
            rows = [" ".join([kind, name] + ["1"] * number) for kind, number in ROWS.items()]
            self.assert_refused(NoRow, *rows)
            self.setUp()

    def test_what_is_no_number(self):
        for word in (
            "01", "00", "+1", "-1", "1.0", "x", "1_0", "", "\u0661", "\uff11", "\u00b2", "1" + "0" * 30,
            "0" * 30, "1e3", "a",
        ):
            rows = []
            for kind, number in ROWS.items():
                for place in range(number):
                    words = ["1"] * number
                    words[place] = word
                    rows.append(" ".join([kind, "a"] + words))
            self.assert_refused(NoRow, *rows)
            self.setUp()

    def test_no_such_name(self):
        rows = [" ".join([kind, "b"] + ["0"] * number) for kind, number in ROWS.items() if kind != "wharf"]
        self.assert_refused(NoName, *rows)

    def test_no_row_goes_ahead_of_no_name(self):
        self.assert_refused(NoRow, "stock b 1", "make b 01 1", "make b 0", "rights b x", "rights B 0", "none b")

    def test_no_name_goes_ahead_of_what_the_stages_refuse(self):
        self.assert_refused(NoName, "make b 9 0", "come b 9 9", "world b 9 0", "lend b 0 0 0", "rights b 9", "keep b 9")

    def test_no_table(self):
        self.assert_refused(
            NoTable, "wharf a 0", "wharf a 9", "wharf b 0", "wharf b 9", "wharf b 10", "wharf b " + THIRTY,
        )
        with self.assertRaises(NoName):
            self.desk.say("stock b")

    def test_no_row_goes_ahead_of_no_table(self):
        self.assert_refused(
            NoRow, "wharf a", "wharf a 00", "wharf a 09", "wharf A 9", "wharf a 9 9", "wharf abcdefghi 0",
            "wharf a 9" + THIRTY,
        )

    def test_no_deed(self):
        self.assert_refused(NoDeed, "make a 0 0", "use a 0 0", "lend a 0 1 0", "world a 0 0", "world a 1 0")

    def test_of_a_deed_no_deed_goes_ahead_of_no_house(self):
        self.assert_refused(
            NoDeed, "make a 9 0", "use a 9 0", "lend a 9 1 0", "lend a 0 9 0", "lend a 0 0 0",
            "lend a 9 9 0",
        )

    def test_of_world_no_house_goes_ahead_of_no_deed(self):
        self.assert_refused(NoHouse, "world a 2 0", "world a 9 0", "world a 2 1")

    def test_no_house(self):
        self.assert_refused(
            NoHouse, "make a 2 1", "use a 2 1", "lend a 2 0 1", "lend a 0 2 1", "lend a 0 0 1",
            "lend a 1 1 1", "keep a 2",
            "fall a 2", "send a 2", "come a 0 2", "rights a 2", "table a 2", "rights a 9",
        )

    def test_no_house_goes_ahead_of_short(self):
        self.assert_refused(NoHouse, "lend a 0 0 99", "lend a 0 2 99", "use a 2 99", "lend a 1 1 1")

    def test_no_letter(self):
        self.assert_refused(NoLetter, "come a 1 0", "come a 1 1", "come a 9 0", "come a " + THIRTY + " 1")

    def test_of_come_no_house_goes_ahead_of_no_letter(self):
        self.assert_refused(NoHouse, "come a 9 2", "come a 1 2", "come a 1 9")

    def test_too_many(self):
        for row in ("steps big", "steps big"):
            self.assert_refused(TooMany, row)
            self.setUp()
        self.assertEqual(self.desk.say("stock big"), "301")

    def test_short_is_told_and_changes_nothing(self):
        before = all_looks(self.desk, "a", 2)
        self.assertEqual(self.desk.say("use a 0 3"), "short 2")
        self.assertEqual(self.desk.say("lend a 0 1 " + THIRTY), "short 2")
        self.assertEqual(self.desk.say("use a 1 1"), "short 0")
        self.assertEqual(all_looks(self.desk, "a", 2), before)


class OfChance(unittest.TestCase):
    def answer(self, desk, row):
        try:
            return desk.say(row)
        except WharfError as refusal:
            return refusal.__class__.__name__

    def assert_answer(self, answer, awaited, row, table):
        if awaited != "must":
            self.assertEqual(answer, awaited, row)
            return
        words = row.split(" ")
        self.assertEqual(answer[:5], "must ", row)
        self.assertIs(shows_must(table, (int(words[2]),), int(words[3]), read_table(answer[5:])), True, row)

    def test_rows_of_chance(self):
        source = random.Random(161)
        seen = {}
        for _ in range(60):
            desk = Desk()
            model = Model()
            for _ in range(120):
                letters = len(model.wharves["a"][2]) if "a" in model.wharves else 0
                row = chance_row(source, letters) if "a" in model.wharves else "wharf a 3"
                awaited = model.say(row)
                words = row.split(" ")
                table = model.wharves[words[1]][0][int(words[2])] if awaited == "must" else None
                self.assert_answer(self.answer(desk, row), awaited, row, table)
                seen.setdefault((words[0], re.sub("[0-9/ ]+", "", awaited)), row)
        for kind in (
            "NoRow", "NoName", "NoTable", "NoDeed", "NoHouse", "NoLetter", "done", "short", "may", "must",
            "ok", "",
        ):
            self.assertIn(kind, {answer for word, answer in seen})

    def test_what_is_promised_holds_behind_each_row(self):
        source = random.Random(162)
        for _ in range(20):
            desk = Desk()
            desk.say("wharf a 3")
            made = 0
            used = 0
            for _ in range(100):
                row = chance_row(source, 3)
                if row.startswith("wharf") or row.startswith("fall") or not row.split(" ")[1] == "a":
                    continue
                answer = self.answer(desk, row)
                if answer == "done" and row.startswith("make"):
                    made += int(row.split(" ")[3])
                if answer == "done" and row.startswith("use"):
                    used += int(row.split(" ")[3])
                # Without falls what was made less what was used is the stock, never below nought.
                self.assertEqual(desk.say("stock a"), str(made - used))
                held = sum(int(desk.say(f"rights a {house}")) for house in range(3))
                self.assertTrue(0 <= held <= made - used)


if __name__ == "__main__":
    unittest.main()

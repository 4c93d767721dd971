"""Points 2 and 3 and the interface, over the whole program."""

import copy
import importlib
import inspect
import unittest

from lendwharf import errors
from lendwharf.desk import Desk
from lendwharf.houses import House

INTERFACE = {
    "tables": ["is_table(thing)", "bare(n)", "rights(table, house)", "stock(table)", "is_within(one, other)",
               "joined(one, other)"],
    "deeds": ["done(table, deed)"],
    "comes": ["comes_about(table)", "is_root_list(table, houses)", "are_rootless(table, houses)", "steps(table)"],
    "houses": ["House(number, table)"],
    "runs": ["played(table, deeds)"],
    "views": ["may_use(table, pool, k)", "is_world(table, pool, world)", "shows_must(table, pool, k, world)",
              "least_stock(table, pool)"],
    "stands": ["is_stand(tables)", "whole(tables)", "on_the_way(tables, i, j)", "held(tables)", "account(tables)"],
    "roads": ["are_roads(n, thing)", "asked(n, roads, house)", "home(n, roads, house)"],
    "gathered": ["gathered(rights, roads, house, amount)", "gathers(rights, roads, house, amount, moment, moves)",
                 "are_moments(n, roads, house, asked, home)"],
    "plans": ["is_question(thing)", "is_plan(question, plan)", "weight(question, cut)"],
    "served": ["best(question)", "first_served(question)"],
    "witnesses": ["is_book(thing)", "free_set(book, gone)", "unmet_set(book, pool)", "bears(book, f)",
                  "is_stuck(book, gone)", "is_blind(book, gone, one)", "most_borne(book)"],
    "heirs": ["heirs_may(book, table, pool, gone, k)"],
    "manners": ["is_manner(thing)", "first_stand(manner)", "may_do(manner, stand)", "behind(manner, stand, number)"],
    "tried": ["tried(manner)", "is_break(manner, run)", "keeps(manner, stands)"],
    "rests": ["rests(manner)"],
    "tabletexts": ["show_table(table)", "read_table(text)"],
    "desk": ["Desk()"],
}
METHODS = {
    House: ["make(self, k)", "lend(self, to, k)", "use(self, k)", "keep(self)", "fall(self)", "letter(self)",
            "come(self, table)", "table(self)", "rights(self)", "used(self)"],
    Desk: ["say(self, row)"],
}

TABLE = ((10, 4, 1), (0, 0, 3))
RING = ((0, 5, 0), (5, 0, 0))
STAND = [((10, 4, 1), (0, 0, 0)), ((10, 3, 0), (0, 0, 2))]
ROADS = [((0, 1),), (), ((1, 0), (1, 2))]
QUESTION = ((5, 0), (((0, 1, 2),),), ((0, 0, 1), (1, 1, 4)))
BOOK = (2, ((0, 1),))
RULES = ((0, "a", "go", "b", 0, ((0, "x"),)), (0, "b", "x", "c", 0, ()), (0, "c", "fall", "a", 0, ()))
MANNER = (1, ("a",), RULES)
USING = (1, ("a",), RULES[:2] + ((0, "c", "x", "b", 1, ()),))
RESTLESS = (1, ("a",), RULES[:2] + ((0, "c", "x", "b", 0, ()),))
STANDS = [(("a",), (), 0), (("b",), ((0, "x"),), 0), (("c",), ((0, "x"),), 0), (("a",), ((0, "x"),), 0)]
MOMENTS = ({0: 0, 1: 1, 2: 3}, {0: 0, 1: 3, 2: None})
RUN = [("lend", 0, 1, 5), ("use", 0, 1), ("keep", 0), ("send", 0), ("come", 0, 1)]

# A call of each name, and what it tells, lists and dicts among it or handed in.
CALLS = (
    ("tables", "is_table", (TABLE,)),
    ("tables", "joined", (TABLE, RING)),
    ("deeds", "done", (TABLE, ("use", 0, 1))),
    ("comes", "comes_about", (TABLE,)),
    ("comes", "comes_about", (RING,)),
    ("comes", "is_root_list", (TABLE, [0, 1])),
    ("comes", "are_rootless", (RING, [0, 1])),
    ("comes", "steps", (TABLE,)),
    ("runs", "played", (TABLE, RUN)),
    ("runs", "played", (TABLE, [])),
    ("views", "may_use", (TABLE, (0,), 6)),
    ("views", "is_world", (TABLE, (0,), TABLE)),
    ("stands", "is_stand", (STAND,)),
    ("stands", "whole", (STAND,)),
    ("stands", "on_the_way", (STAND, 0, 1)),
    ("stands", "held", (STAND,)),
    ("stands", "account", (STAND,)),
    ("roads", "are_roads", (3, ROADS)),
    ("roads", "asked", (3, ROADS, 0)),
    ("roads", "home", (3, ROADS, 0)),
    ("gathered", "gathered", ((2, 3, 4), ROADS, 0, 5)),
    ("gathered", "gathered", ((2, 3, 4), ROADS, 0, 2)),
    ("gathered", "gathered", ((2, 3, 4), ROADS, 0, 6)),
    ("gathered", "gathers", ((2, 3, 4), ROADS, 0, 5, 3, [(2, 1, 0, 3)])),
    ("gathered", "are_moments", (3, ROADS, 0) + MOMENTS),
    ("plans", "is_plan", (QUESTION, ([(0, 0, 1, 2)], [1, 2]))),
    ("plans", "weight", (QUESTION, [(0, 0), (0, 1)])),
    ("served", "best", (QUESTION,)),
    ("served", "best", (((5, 2), (), ()),)),
    ("served", "first_served", (QUESTION,)),
    ("witnesses", "is_book", ([2, [[0, 1]]],)),
    ("witnesses", "bears", (BOOK, 1)),
    ("witnesses", "most_borne", (BOOK,)),
    ("heirs", "heirs_may", (BOOK, TABLE, (0,), (1,), 6)),
    ("manners", "is_manner", ([1, ["a"], []],)),
    ("manners", "may_do", (MANNER, STANDS[0])),
    ("manners", "may_do", (MANNER, (("z",), (), 0))),
    ("manners", "behind", (MANNER, STANDS[0], 0)),
    ("tried", "tried", (MANNER,)),
    ("tried", "tried", (USING,)),
    ("tried", "is_break", (USING, [0, 1, 2, 1, 2])),
    ("tried", "keeps", (MANNER, STANDS)),
    ("rests", "rests", (MANNER,)),
    ("rests", "rests", (RESTLESS,)),
    ("tabletexts", "show_table", (TABLE,)),
    ("tabletexts", "read_table", ("1 0",)),
)


def the(module, name):
    return getattr(importlib.import_module("lendwharf." + module), name)


def lists_and_dicts(thing):
    """All that can be changed in what was told, however deep."""
    if isinstance(thing, (list, tuple)):
        parts = list(thing)
    elif isinstance(thing, dict):
        parts = list(thing) + list(thing.values())
    else:
        parts = []
    found = [thing] if isinstance(thing, (list, dict)) else []
    for part in parts:
        found += lists_and_dicts(part)
    return found


class Interface(unittest.TestCase):
    def test_names_and_arguments(self):
        for module, rows in INTERFACE.items():
            for row in rows:
                name = row.partition("(")[0]
                self.assertEqual(name + str(inspect.signature(the(module, name))), row, module)

    def test_methods_and_arguments(self):
        for one, rows in METHODS.items():
            for row in rows:
                name = row.partition("(")[0]
                self.assertEqual(name + str(inspect.signature(getattr(one, name))), row)

    def test_each_refusal_is_right_under_wharf_error(self):
        classes = [one for one in vars(errors).values() if inspect.isclass(one) and one is not errors.WharfError]
        self.assertEqual(len(classes), 14)
        for one in classes:
            self.assertEqual(one.__bases__, (errors.WharfError,))
            self.assertEqual(one.__subclasses__(), [])


class ToldAndHandedIn(unittest.TestCase):
    def test_what_was_handed_in_stays(self):
        for module, name, arguments in CALLS:
            handed = copy.deepcopy(arguments)
            the(module, name)(*handed)
            self.assertEqual(handed, arguments, name)

    def test_what_is_told_twice_is_the_same_but_unlike_objects(self):
        for module, name, arguments in CALLS:
            with self.subTest(name):
                handed = copy.deepcopy(arguments)
                ask = the(module, name)
                one = ask(*handed)
                other = ask(*handed)
                self.assertEqual(one, other)
                everything = lists_and_dicts(one) + lists_and_dicts(other) + lists_and_dicts(handed)
                self.assertEqual(len({id(thing) for thing in everything}), len(everything))

    def test_changing_what_was_told_changes_no_later_answer(self):
        for module, name, arguments in CALLS:
            with self.subTest(name):
                handed = copy.deepcopy(arguments)
                ask = the(module, name)
                one = ask(*handed)
                before = copy.deepcopy(one)
                for thing in lists_and_dicts(one):
                    thing.clear()
                self.assertEqual(handed, arguments)
                self.assertEqual(ask(*handed), before)

    def test_changing_what_was_handed_in_changes_nothing_told(self):
        for module, name, arguments in CALLS:
            with self.subTest(name):
                handed = copy.deepcopy(arguments)
                told = the(module, name)(*handed)
                before = copy.deepcopy(told)
                for thing in lists_and_dicts(handed):
                    thing.clear()
                self.assertEqual(told, before)

    def test_every_name_that_tells_or_takes_lists_or_dicts_is_called(self):
        called = {name for module, name, arguments in CALLS}
        telling = {
            "comes_about", "is_root_list", "are_rootless", "steps", "played", "is_stand", "whole", "on_the_way", "held",
            "account", "are_roads", "asked", "home", "gathered", "gathers", "are_moments", "is_plan", "weight", "best",
            "first_served", "may_do", "tried", "is_break", "keeps", "rests",
        }
        self.assertEqual(telling - called, set())

    def test_no_answer_hangs_on_an_earlier_one(self):
        first = [the(module, name)(*copy.deepcopy(arguments)) for module, name, arguments in CALLS]
        second = [the(module, name)(*copy.deepcopy(arguments)) for module, name, arguments in reversed(CALLS)]
        self.assertEqual(first, second[::-1])


if __name__ == "__main__":
    unittest.main()

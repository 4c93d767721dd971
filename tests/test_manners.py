"""Points 2, 26 and 27: manners, their first stands, the rules that may be done, the stands behind them."""

import itertools
import random
import unittest

from lendwharf.errors import NoDeed, NoManner
from lendwharf.manners import behind, first_stand, is_manner, may_do

from tests.mannered import behind_by_the_words, chance_manner, may_do_by_the_words
from tests.samples import HUGE, Touchy, other_things

# House 0 asks, house 1 lends by a letter, house 0 uses when it comes; both may fall.
STARTS = ("idle", "full")
RULES = (
    (0, "idle", "go", "asking", 0, ((1, "ask"),)),
    (1, "full", "ask", "empty", 0, ((0, "lend"),)),
    (0, "asking", "lend", "idle", 1, ()),
    (0, "asking", "fall", "idle", 0, ()),
    (1, "empty", "fall", "full", 0, ()),
)
MANNER = (1, STARTS, RULES)
RULE = RULES[0]
OTHER_KINDS = (None, True, False, -1, HUGE, "", "Go", b"go", (), [], {}, (0,), ["a"], Touchy())

GOOD_WORDS = ("a", "z", "go", "fall", "abcdefgh", "zzzzzzzz")
BAD_WORDS = (
    "", "abcdefghi", "A", "aB", "a b", " a", "a ", "a1", "1", "a-b", "a_b", "a\n", "\n", "`", "{", "\u00e9", "\u00df",
    "\u0430", "\uff41", None, 1, b"a", ["a"], ("a",), True, Touchy(),
)


def with_part(parts, place, part):
    return parts[:place] + (part,) + parts[place + 1:]


class Looks(unittest.TestCase):
    def assert_manner(self, awaited, stock=1, starts=STARTS, rules=RULES):
        self.assertIs(is_manner((stock, starts, rules)), awaited, (stock, starts, rules))

    def assert_rule(self, awaited, rule):
        self.assert_manner(awaited, rules=(rule,))
        self.assert_manner(awaited, rules=RULES[1:] + (rule,))

    def assert_part(self, awaited, place, part):
        self.assert_rule(awaited, with_part(RULE, place, part))


class IsManner(Looks):
    def test_ordinary_ones(self):
        self.assert_manner(True)
        self.assert_manner(True, rules=())
        source = random.Random(121)
        for _ in range(200):
            self.assertIs(is_manner(chance_manner(source)), True)

    def test_bounds_of_the_stock(self):
        for stock in (-1, 0, 1, 20, 21, HUGE):
            self.assert_manner(0 <= stock <= 20, stock=stock)
        for stock in (True, False, None, "1", (1,), [1], Touchy()):
            self.assert_manner(False, stock=stock)

    def test_bounds_of_the_starts(self):
        for n in range(7):
            self.assert_manner(1 <= n <= 4, starts=("a",) * n, rules=())
        self.assert_manner(False, starts=list(STARTS))
        self.assert_manner(False, starts="ab", rules=())

    def test_words(self):
        for words, awaited in ((GOOD_WORDS, True), (BAD_WORDS, False)):
            for word in words:
                self.assert_manner(awaited, starts=(word,), rules=())
                self.assert_manner(awaited, starts=("a", word))
                for place in (1, 2, 3):
                    self.assert_part(awaited, place, word)

    def test_go_and_fall_are_no_words_of_letters(self):
        for word in GOOD_WORDS:
            self.assert_part(word not in ("go", "fall"), 5, ((0, word),))
            self.assert_part(word not in ("go", "fall"), 5, ((1, "a"), (0, word)))
        for word in BAD_WORDS:
            self.assert_part(False, 5, ((0, word),))
        for word in ("goes", "og", "falls", "fal", "g"):
            self.assert_part(True, 5, ((0, word),))

    def test_go_and_fall_as_states(self):
        rule = (0, "go", "fall", "fall", 0, ())
        self.assert_manner(True, starts=("go", "fall"), rules=(rule, with_part(rule, 1, "fall")))

    def test_bounds_of_the_rules(self):
        many = tuple((0, "a", "go", chr(97 + number // 10), number % 10, ()) for number in range(61))
        for number, awaited in ((0, True), (1, True), (60, True), (61, False)):
            self.assert_manner(awaited, rules=many[:number])
        self.assert_manner(False, rules=list(RULES))
        for thing in OTHER_KINDS:
            if thing.__class__ is not tuple or len(thing) > 0:
                self.assert_manner(False, rules=thing)

    def test_no_rule_twice(self):
        for rule in RULES:
            self.assert_manner(False, rules=RULES + (rule,))
        self.assert_manner(False, rules=(RULE, RULE))
        for place, part in ((0, 1), (1, "b"), (2, "fall"), (3, "b"), (4, 1), (5, ())):
            self.assert_manner(True, rules=(RULE, with_part(RULE, place, part)))
        letters = ((0, "a"), (1, "a"))
        self.assert_manner(True, rules=(with_part(RULE, 5, letters), with_part(RULE, 5, letters[::-1])))

    def test_houses_of_rules_and_of_letters(self):
        for house in (-1, 0, 1, 2, 3, HUGE):
            self.assert_part(0 <= house <= 1, 0, house)
            self.assert_part(0 <= house <= 1, 5, ((house, "a"),))
        for house in (True, False, None, "0", (0,), Touchy()):
            self.assert_part(False, 0, house)
            self.assert_part(False, 5, ((house, "a"),))
        self.assert_manner(True, starts=("a",) * 4, rules=((3, "a", "go", "a", 0, ((3, "a"),)),))

    def test_bounds_of_use(self):
        for use in (-1, 0, 9, 10, HUGE):
            self.assert_part(0 <= use <= 9, 4, use)
        for use in (True, False, None, "1", (), Touchy()):
            self.assert_part(False, 4, use)

    def test_bounds_of_the_letters(self):
        unlike = tuple((0, sign) for sign in "abcdefghij")
        for number in range(11):
            self.assert_part(number <= 8, 5, unlike[:number])
            self.assert_part(number <= 8, 5, ((1, "same"),) * number)
        wrong = (
            [], [(0, "a")], ([0, "a"],), ((0,),), ((0, "a", "b"),), ((),), ("ab",), ((0, "a"), None), (0, "a"), None,
        )
        for letters in wrong:
            self.assert_part(False, 5, letters)

    def test_wrong_numbers_of_parts(self):
        for thing in ((), MANNER[:2], MANNER + (0,), (MANNER,), list(MANNER)):
            self.assertIs(is_manner(thing), False)
        for rule in ((), RULE[:5], RULE + (0,), list(RULE)):
            self.assert_rule(False, rule)

    def test_things_of_other_kinds_at_each_place(self):
        for number, thing in enumerate(other_things()):
            with self.subTest(number=number):
                self.assertIs(is_manner(thing), False)
                self.assertIs(is_manner((1, thing, ())), False)
                self.assertIs(is_manner((1, STARTS, thing)), False)
                self.assertIs(is_manner((1, STARTS, (thing,))), False)
                self.assertIs(is_manner((1, STARTS, RULES + (thing,))), False)
                if thing.__class__ is not int:
                    self.assertIs(is_manner((thing, STARTS, RULES)), False)
                    for place in (0, 4):
                        self.assertIs(is_manner((1, STARTS, (with_part(RULE, place, thing),))), False)
                for place in (1, 2, 3):
                    word = thing.__class__ is str and thing == "abc"
                    self.assertIs(is_manner((1, STARTS, (with_part(RULE, place, thing),))), word)
                self.assertIs(is_manner((1, STARTS, (with_part(RULE, 5, thing),))), False)
                self.assertIs(is_manner((1, STARTS, (with_part(RULE, 5, (thing,)),))), False)


class Stands(unittest.TestCase):
    def test_first_stand(self):
        self.assertEqual(first_stand(MANNER), (STARTS, (), 0))
        self.assertEqual(first_stand((20, ("go",), ())), (("go",), (), 0))

    def test_rules_at_first(self):
        self.assertEqual(may_do(MANNER, first_stand(MANNER)), [0])
        self.assertEqual(may_do((1, STARTS, ()), first_stand(MANNER)), [])

    def test_step_by_step(self):
        stand = first_stand(MANNER)
        steps = (
            (0, (("asking", "full"), ((1, "ask"),), 0), [1, 3]),
            (1, (("asking", "empty"), ((0, "lend"), (1, "ask")), 0), [2, 3, 4]),
            (2, (("idle", "empty"), ((0, "lend"), (1, "ask")), 1), [0, 4]),
            (0, (("asking", "empty"), ((0, "lend"), (1, "ask")), 1), [2, 3, 4]),
            # The letter that came lies there still, and comes again: more is used than there was.
            (2, (("idle", "empty"), ((0, "lend"), (1, "ask")), 2), [0, 4]),
            (4, (("idle", "full"), ((0, "lend"), (1, "ask")), 2), [0, 1]),
        )
        for number, after, may in steps:
            stand = behind(MANNER, stand, number)
            self.assertEqual(stand, after)
            self.assertEqual(may_do(MANNER, stand), may)

    def test_a_letter_to_another_house_is_none_to_this_one(self):
        manner = (0, ("a", "a"), ((0, "a", "x", "b", 0, ()), (1, "a", "x", "b", 0, ())))
        self.assertEqual(may_do(manner, (("a", "a"), ((0, "x"),), 0)), [0])
        self.assertEqual(may_do(manner, (("a", "a"), ((1, "x"),), 0)), [1])
        self.assertEqual(may_do(manner, (("b", "a"), ((0, "x"), (1, "x")), 0)), [1])
        self.assertEqual(may_do(manner, (("a", "a"), ((0, "xx"), (1, "y")), 0)), [])

    def test_letters_rise_and_lie_there_once(self):
        letters = ((1, "b"), (0, "c"), (1, "a"), (0, "c"), (1, "b"))
        manner = (0, ("a", "a"), ((0, "a", "go", "a", 9, letters),))
        stand = behind(manner, first_stand(manner), 0)
        self.assertEqual(stand, (("a", "a"), ((0, "c"), (1, "a"), (1, "b")), 9))
        self.assertEqual(behind(manner, stand, 0), (("a", "a"), ((0, "c"), (1, "a"), (1, "b")), 18))
        other = (("a", "a"), ((0, "a"), (0, "d"), (1, "aa")), 3)
        self.assertEqual(behind(manner, other, 0)[1], ((0, "a"), (0, "c"), (0, "d"), (1, "a"), (1, "aa"), (1, "b")))

    def test_more_used_than_the_stock_stops_no_rule(self):
        manner = (0, ("a",), ((0, "a", "go", "a", 9, ()),))
        stand = first_stand(manner)
        for times in range(1, 10):
            stand = behind(manner, stand, 0)
            self.assertEqual(stand, (("a",), (), 9 * times))

    def test_go_and_fall_as_states_and_events(self):
        manner = (0, ("go",), ((0, "go", "fall", "fall", 0, ()), (0, "fall", "go", "go", 0, ())))
        self.assertEqual(may_do(manner, (("go",), (), 0)), [0])
        self.assertEqual(may_do(manner, (("fall",), (), 0)), [1])
        self.assertEqual(behind(manner, (("fall",), (), 0), 1), (("go",), (), 0))

    def test_a_rule_that_may_not_be_done(self):
        first = first_stand(MANNER)
        for number in (1, 2, 3, 4, 5, -1, -5, HUGE, -HUGE):
            with self.assertRaises(NoDeed):
                behind(MANNER, first, number)
        with self.assertRaises(NoDeed):
            behind((0, ("a",), ()), (("a",), (), 0), 0)
        with self.assertRaises(NoDeed):
            behind(MANNER, (("asking", "full"), (), 0), 2)

    def test_runs_of_chance_by_the_words(self):
        source = random.Random(122)
        done = 0
        for _ in range(300):
            manner = chance_manner(source)
            stand = first_stand(manner)
            for _ in range(12):
                may = may_do_by_the_words(manner, stand)
                self.assertEqual(may_do(manner, stand), may)
                for number in range(-1, len(manner[2]) + 1):
                    if number not in may:
                        with self.assertRaises(NoDeed):
                            behind(manner, stand, number)
                if not may:
                    break
                number = source.choice(may)
                after = behind(manner, stand, number)
                self.assertEqual(after, behind_by_the_words(manner, stand, number))
                stand = after
                done += 1
        self.assertGreater(done, 300)

    def test_what_is_told_is_new_each_time(self):
        first = first_stand(MANNER)
        told = may_do(MANNER, first)
        told.append(99)
        self.assertEqual(may_do(MANNER, first), [0])


class NoManners(unittest.TestCase):
    def test_no_manner_ahead_of_all(self):
        wrong = (
            (21, STARTS, RULES), (-1, STARTS, RULES), (True, STARTS, RULES), (1, (), ()), (1, ("a",) * 5, ()),
            (1, STARTS, RULES + RULES[:1]), (1, STARTS, list(RULES)), (1, ("Idle", "full"), RULES), MANNER[:2],
            (1, STARTS[:1], RULES), (1, STARTS, (with_part(RULE, 4, 10),)), list(MANNER),
        )
        stands = (first_stand(MANNER), ((), (), 0))
        for thing in wrong + tuple(other_things()):
            with self.assertRaises(NoManner):
                first_stand(thing)
            for stand, number in itertools.product(stands, (0, 1, 99, -1)):
                with self.assertRaises(NoManner):
                    may_do(thing, stand)
                with self.assertRaises(NoManner):
                    behind(thing, stand, number)


if __name__ == "__main__":
    unittest.main()

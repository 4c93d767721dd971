"""Points 2 and 27: whether a manner keeps its stock, or a shortest run that breaks it."""

import itertools
import random
import unittest

from lendwharf.errors import NoManner, TooMany
from lendwharf.manners import is_manner
from lendwharf.tried import is_break, keeps, tried

from tests.mannered import breaks_at, chance_manner, cycles, fans, fewest_by_runs, first_by_the_words
from tests.mannered import is_break_by_the_words, keeps_by_the_words, levels_by_the_words
from tests.samples import HUGE, other_things

# House 0 asks, house 1 lends by a letter, house 0 uses when it comes: the letter comes again.
TWICE = (1, ("idle", "full"), (
    (0, "idle", "go", "asking", 0, ((1, "ask"),)),
    (1, "full", "ask", "empty", 0, ((0, "lend"),)),
    (0, "asking", "lend", "idle", 1, ()),
))
# The same, but who was lent something never asks again.
ONCE = (1, TWICE[1], TWICE[2][:2] + ((0, "asking", "lend", "done", 1, ()),))
IDLE = (0, ("a",), ())
AT_ONCE = (0, ("a",), ((0, "a", "go", "a", 1, ()),))

# By fewer steps than the four that a break needs 2000 stands are come to, and 2001.
JUST_2000 = (8, 11, 19)
JUST_2001 = (17, 37, 2)


def small_manner(source):
    manner = chance_manner(source)
    return (source.randint(0, 2),) + manner[1:]


class Asked(unittest.TestCase):
    def assert_breaks(self, manner, steps):
        told = tried(manner)
        self.assertEqual((told.__class__, len(told), told[0], told[1].__class__), (tuple, 2, "breaks", list), manner)
        self.assertEqual(len(told[1]), steps, manner)
        self.assertIs(is_break_by_the_words(manner, told[1]), True, manner)
        self.assertIs(is_break(manner, told[1]), True)
        self.assertIs(is_break(manner, told[1][:-1]), False)

    def assert_keeps(self, manner, number=None):
        told = tried(manner)
        self.assertEqual((told.__class__, len(told), told[0], told[1].__class__), (tuple, 2, "keeps", list), manner)
        self.assertIs(keeps_by_the_words(manner, told[1]), True, manner)
        self.assertIs(keeps(manner, told[1]), True)
        if number is not None:
            self.assertEqual(len(told[1]), number)

    def assert_too_many(self, manner):
        self.assertIs(is_manner(manner), True)
        with self.assertRaises(TooMany):
            tried(manner)


class Tried(Asked):
    def test_at_once(self):
        self.assert_breaks(AT_ONCE, 1)
        self.assert_keeps((1,) + IDLE[1:], 1)
        self.assert_keeps(IDLE, 1)

    def test_the_stock_may_be_used_up_but_no_more(self):
        for stock in range(21):
            manner = (stock, ("a",), ((0, "a", "go", "a", 1, ()),))
            self.assert_breaks(manner, stock + 1)
            line = tuple((0, "s" + chr(97 + at), "go", "s" + chr(98 + at), 1, ()) for at in range(stock))
            self.assert_keeps((stock, ("sa",), line), stock + 1)
            if stock:
                self.assert_breaks((stock - 1, ("sa",), line), stock)

    def test_the_fewest_steps_and_not_the_first_rule(self):
        rules = ((0, "a", "go", "a", 1, ()), (0, "a", "fall", "b", 0, ()), (0, "b", "go", "b", 9, ()))
        self.assert_breaks((1, ("a",), rules), 2)
        self.assert_breaks((5, ("a",), rules), 2)
        self.assert_breaks((8, ("a",), rules), 2)
        self.assert_breaks((9, ("a",), rules), 3)

    def test_letters_that_come_twice(self):
        self.assert_breaks(TWICE, 5)
        self.assert_keeps(ONCE)
        self.assert_breaks((0,) + ONCE[1:], 3)

    def test_a_fall_is_a_rule_like_others(self):
        fallen = (1, ONCE[1], ONCE[2] + ((0, "done", "fall", "asking", 0, ()),))
        self.assert_breaks(fallen, 5)

    def test_small_ones_against_every_run(self):
        source = random.Random(131)
        kinds = []
        for _ in range(250):
            manner = small_manner(source)
            if breaks_at(manner, 2000)[1] > 2000:
                self.assert_too_many(manner)
                continue
            steps = breaks_at(manner, 2000)[0]
            kinds.append(steps)
            if steps is None:
                self.assert_keeps(manner)
                self.assertIsNone(fewest_by_runs(manner, 4))
            else:
                self.assert_breaks(manner, steps)
                self.assertIsNone(fewest_by_runs(manner, min(5, steps - 1)))
        self.assertGreater(len(set(kinds)), 4)
        self.assertGreater(kinds.count(None), 50)

    def test_the_same_stand_with_more_used_is_another_one(self):
        manner = (3, ("a",), ((0, "a", "go", "b", 1, ()), (0, "b", "go", "a", 0, ())))
        self.assert_breaks(manner, 7)
        self.assertEqual(len(levels_by_the_words(manner, 2000)), 8)


class TooManyStands(Asked):
    def test_exactly_2000_and_one_more_and_none_breaks(self):
        self.assert_keeps(cycles((10, 10, 20)), 2000)
        self.assert_keeps(fans(JUST_2000, False), 2000)
        self.assert_too_many(fans(JUST_2001, False))
        self.assert_keeps(cycles((1, 2, 3, 5)), 30)
        self.assert_too_many(cycles((13, 13, 13)))

    def test_exactly_2000_and_one_more_by_fewer_than_a_break_needs(self):
        self.assertEqual(breaks_at(fans(JUST_2000, True), 5000), (4, 2000))
        self.assert_breaks(fans(JUST_2000, True), 4)
        self.assertEqual(breaks_at(fans(JUST_2001, True), 5000), (4, 2001))
        self.assert_too_many(fans(JUST_2001, True))

    def test_stands_as_far_off_as_the_break_do_not_count(self):
        wide = fans((6, 8, 8, 8), True)
        levels = levels_by_the_words(wide, 20000)
        self.assertLessEqual(sum(map(len, levels[:4])), 2000)
        self.assertGreater(sum(map(len, levels)), 4000)
        self.assert_breaks(wide, 4)

    def test_a_break_far_behind_too_many(self):
        round_and_round = cycles((13, 13, 13))
        soon = (0,) + round_and_round[1:2] + (round_and_round[2] + ((0, "sm", "go", "sm", 1, ()),),)
        steps, fewer = breaks_at(soon, 20000)
        self.assertEqual(steps, 13)
        self.assertLessEqual(fewer, 2000)
        self.assert_breaks(soon, 13)
        late = (1,) + round_and_round[1:2] + (round_and_round[2] + ((2, "sm", "fall", "sa", 1, ()),),)
        self.assertGreater(breaks_at(late, 20000)[1], 2000)
        self.assert_too_many(late)

    def test_the_order_of_the_rules_does_not_matter(self):
        for numbers in (JUST_2000, JUST_2001):
            manner = fans(numbers, True)
            turned = manner[:2] + (manner[2][::-1],)
            if numbers == JUST_2000:
                self.assert_breaks(turned, 4)
            else:
                self.assert_too_many(turned)


class IsBreak(unittest.TestCase):
    def test_by_hand(self):
        self.assertIs(is_break(TWICE, [0, 1, 2, 0, 2]), True)
        self.assertIs(is_break(TWICE, [0, 1, 2, 0]), False)
        self.assertIs(is_break(TWICE, [0, 1, 2]), False)
        self.assertIs(is_break(AT_ONCE, [0]), True)
        self.assertIs(is_break(AT_ONCE, [0] * 5), True)

    def test_longer_than_it_need_be(self):
        self.assertIs(is_break(TWICE, [0, 1, 2, 0, 2, 0]), True)
        self.assertIs(is_break(TWICE, [0, 1, 2, 0, 2, 0, 2, 0, 2]), True)

    def test_a_rule_that_may_not_be_done(self):
        for run in ([1], [2], [0, 2], [0, 0], [0, 1, 2, 2], [0, 1, 2, 0, 2, 2], [0, 1, 2, 0, 2, 1], [1, 0, 1, 2, 0, 2]):
            self.assertIs(is_break(TWICE, run), False, run)

    def test_a_number_that_is_no_rule(self):
        for number in (-1, -3, 3, HUGE, -HUGE):
            self.assertIs(is_break(TWICE, [number]), False)
            self.assertIs(is_break(TWICE, [0, 1, 2, 0, number]), False)
            self.assertIs(is_break(TWICE, [0, 1, 2, 0, 2, number]), False)
            self.assertIs(is_break(AT_ONCE, [number]), number == 0)
        self.assertIs(is_break(AT_ONCE, [-1]), False)

    def test_none(self):
        for manner in (TWICE, ONCE, AT_ONCE, IDLE):
            self.assertIs(is_break(manner, []), False)

    def test_very_many_steps(self):
        self.assertIs(is_break(AT_ONCE, [0] * 100000), True)
        loop = (5, ("a",), (
            (0, "a", "go", "b", 0, ((0, "x"),)), (0, "b", "x", "a", 0, ((0, "y"),)), (0, "a", "y", "a", 6, ()),
        ))
        self.assertIs(is_break(loop, [0, 1] * 50000), False)
        self.assertIs(is_break(loop, [0, 1] * 50000 + [2]), True)
        self.assertIs(is_break(loop, [0, 1] * 50000 + [1]), False)

    def test_of_a_manner_of_too_many_stands(self):
        self.assertIs(is_break(cycles((13, 13, 13)), list(range(39)) * 50), False)
        far = fans(JUST_2001, True)
        self.assertIs(is_break(far, [0, 17, 17 + 37, len(far[2]) - 1]), True)

    def test_all_short_runs_by_the_words(self):
        source = random.Random(132)
        broken = 0
        for _ in range(100):
            manner = (0,) + small_manner(source)[1:]
            numbers = range(-1, min(5, len(manner[2])) + 1)
            for length in range(4):
                for run in itertools.product(numbers, repeat=length):
                    awaited = is_break_by_the_words(manner, list(run))
                    broken += awaited
                    self.assertIs(is_break(manner, list(run)), awaited, (manner, run))
        self.assertGreater(broken, 10)

    def test_what_is_handed_in_stays(self):
        run = [0, 1, 2, 0, 2]
        is_break(TWICE, run)
        self.assertEqual(run, [0, 1, 2, 0, 2])


class Keeps(unittest.TestCase):
    def setUp(self):
        self.stands = tried(ONCE)[1]

    def test_in_any_order(self):
        self.assertIs(keeps(ONCE, self.stands), True)
        self.assertIs(keeps(ONCE, self.stands[::-1]), True)

    def test_each_stand_is_needed(self):
        for number in range(len(self.stands)):
            self.assertIs(keeps(ONCE, self.stands[:number] + self.stands[number + 1:]), False)

    def test_none(self):
        self.assertIs(keeps(IDLE, []), False)
        self.assertIs(keeps(ONCE, []), False)

    def test_without_the_first_one(self):
        other = (("b",), (), 0)
        self.assertIs(keeps(IDLE, [other]), False)
        self.assertIs(keeps(IDLE, [other, first_by_the_words(IDLE)]), True)

    def test_a_stand_twice(self):
        for stand in self.stands:
            self.assertIs(keeps(ONCE, self.stands + [stand]), False)

    def test_more_used_than_the_stock(self):
        over = (("done", "full"), (), 2)
        self.assertIs(keeps(ONCE, self.stands + [over]), False)
        at_most = (("done", "full"), (), 1)
        self.assertIs(keeps(ONCE, self.stands + [at_most]), True)
        self.assertIs(keeps((0,) + ONCE[1:], self.stands), False)

    def test_stands_that_are_not_come_to(self):
        first = first_by_the_words(ONCE)
        self.assertNotIn((("else", "where"), ((0, "zz"), (1, "zz")), 1), self.stands)
        self.assertIs(keeps(ONCE, self.stands + [(("else", "where"), ((0, "zz"), (1, "zz")), 1)]), True)
        self.assertIs(keeps(ONCE, self.stands + [(("asking", "where"), ((0, "lend"),), 0)]), False)
        beyond = [(("asking", "where"), ((0, "lend"),), 0), (("done", "where"), ((0, "lend"),), 1)]
        self.assertIs(keeps(ONCE, self.stands + beyond), True)
        self.assertIs(keeps(ONCE, [first] + beyond), False)

    def test_2000_and_2001(self):
        manner = cycles((10, 10, 20))
        stands = tried(manner)[1]
        self.assertEqual(len(stands), 2000)
        self.assertIs(keeps(manner, stands), True)
        self.assertIs(keeps(manner, stands[:-1]), False)
        self.assertIs(keeps(manner, stands + [(("x", "y", "z"), (), 0)]), False)
        loose = [first_by_the_words(IDLE)]
        letters = "abcdefghijklmnopqrstuvwxyz"
        loose += [(("".join(word),), (), 0) for word in itertools.islice(itertools.product(letters, repeat=3), 2001)]
        self.assertEqual(len(set(loose)), 2002)
        self.assertIs(keeps(IDLE, loose[:2000]), True)
        self.assertIs(keeps(IDLE, loose[:2001]), False)
        self.assertIs(keeps(IDLE, loose), False)

    def test_never_both(self):
        for manner in (TWICE, AT_ONCE):
            stands = [stand for level in levels_by_the_words(manner, 2000) for stand in level]
            self.assertIs(keeps(manner, stands), False)
            self.assertIs(keeps(manner, [stand for stand in stands if stand[2] <= manner[0]]), False)

    def test_what_is_no_stand_of_the_manner(self):
        wrong = (
            (("b", "b"), (), 0), ((), (), 0), (("b",), ((0, "y"), (0, "x")), 0), (("b",), ((0, "x"), (0, "x")), 0),
            (("b",), ((1, "x"),), 0), (("b",), (), True), (("b",), (), False), (("B",), (), 0), (("b",), ((0, "go"),), 0),
            (("b",), [], 0), (["b"], (), 0), (("b",), ()), (("b",), (), 0, 0), [("b",), (), 0], None,
            (("b",), ((0, "x"), 1), 0),
        )
        for thing in wrong:
            self.assertIs(keeps(IDLE, [first_by_the_words(IDLE), thing]), False, thing)
        two = (0, ("a", "a"), ())
        self.assertIs(keeps(two, [first_by_the_words(two), (("b", "B"), (), 0)]), False)
        self.assertIs(keeps(two, [first_by_the_words(two), (("b", "b"), ((0, "x"), (2, "x")), 0)]), False)

    def test_by_the_words(self):
        source = random.Random(133)
        held = 0
        for _ in range(200):
            manner = small_manner(source)
            levels = levels_by_the_words(manner, 300)
            stands = [stand for level in levels for stand in level]
            for _ in range(5):
                some = list(stands)
                if source.random() < 0.5:
                    some.pop(source.randrange(len(some)))
                if source.random() < 0.5:
                    word = source.choice(("a", "b", "go"))
                    some.append(((word,) * len(manner[1]), source.choice(((), ((0, "x"),))), source.randint(0, 3)))
                source.shuffle(some)
                awaited = keeps_by_the_words(manner, some)
                held += awaited
                self.assertIs(keeps(manner, some), awaited, (manner, some))
        self.assertGreater(held, 50)

    def test_what_is_handed_in_stays(self):
        stands = list(self.stands)
        keeps(ONCE, stands)
        self.assertEqual(stands, self.stands)


class TheAskersOwn(unittest.TestCase):
    def test_what_is_told_is_new_each_time(self):
        for manner in (TWICE, ONCE):
            told = tried(manner)
            before = (told[0], list(told[1]))
            told[1].clear()
            self.assertEqual(tried(manner), before)


class NoManners(unittest.TestCase):
    def test_no_manner_ahead_of_all(self):
        wrong = (
            (21,) + TWICE[1:], (True,) + TWICE[1:], (1, (), ()), TWICE[:2], list(TWICE), TWICE[:2] + (TWICE[2] * 2,),
        )
        for thing in wrong + tuple(other_things()):
            with self.assertRaises(NoManner):
                tried(thing)
            for run in ([], [0], [-1, HUGE]):
                with self.assertRaises(NoManner):
                    is_break(thing, run)
            for stands in ([], [(("a",), (), 0)], [(("a",), (), 0)] * 2001):
                with self.assertRaises(NoManner):
                    keeps(thing, stands)


if __name__ == "__main__":
    unittest.main()

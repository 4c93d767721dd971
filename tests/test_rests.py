"""Points 2 and 28: whether a manner comes to rest from wherever it comes to."""

import random
import unittest

from lendwharf.errors import NoManner, NoStand, TooMany
from lendwharf.rests import rests

from tests.mannered import behind_by_the_words, breaks_at, chance_manner, cycles, fans, first_by_the_words
from tests.mannered import levels_by_the_words, may_do_by_the_words, next_stands
from tests.samples import other_things

# House 0 sends one letter, by which house 1 goes on, and that's that.
ONE_LETTER = (0, ("a", "a"), ((0, "a", "go", "b", 0, ((1, "x"),)), (1, "a", "x", "b", 0, ())))
# By its letter house 0 goes to and fro for ever.
TO_AND_FRO = (0, ("a",), (
    (0, "a", "go", "b", 0, ((0, "x"),)), (0, "b", "x", "c", 0, ()), (0, "c", "x", "b", 0, ()),
))
AT_ONCE = (0, ("a",), ((0, "a", "go", "a", 1, ()),))


def does_rest(manner, stand):
    """Point 28: each rule that may be done there by a letter that comes leaves the stand as it is."""
    for number in may_do_by_the_words(manner, stand):
        if manner[2][number][2] not in ("go", "fall") and behind_by_the_words(manner, stand, number) != stand:
            return False
    return True


def fewest_to_rest(manner, stand):
    seen = {stand}
    level = {stand}
    steps = 0
    while level:
        if any(does_rest(manner, one) for one in level):
            return steps
        level = {after for one in level for after in next_stands(manner, one)} - seen
        seen |= level
        steps += 1
    return None


def lively_manner(source):
    """Mostly rules by letters, none of which uses anything."""
    n = source.randint(1, 2)
    rules = [(house, "a", "go", "b", 0, ((house, "x"), (source.randrange(n), "y"))) for house in range(n)]
    for _ in range(source.randint(1, 6)):
        event = source.choice(("x", "x", "y", "y", "go", "fall"))
        letters = tuple((source.randrange(n), "z") for _ in range(source.randint(0, 1)))
        rules.append((source.randrange(n), source.choice("abc"), event, source.choice("abc"), 0, letters))
    return (0, ("a",) * n, tuple(dict.fromkeys(rules)))


def all_stands(manner):
    return [stand for level in levels_by_the_words(manner, 2000) for stand in level]


class Asked(unittest.TestCase):
    def assert_rests(self, manner, awaited=None):
        told = rests(manner)
        self.assertEqual((told.__class__, len(told), told[0], told[1].__class__), (tuple, 2, "rests", dict), manner)
        self.assertEqual(told[1], {stand: fewest_to_rest(manner, stand) for stand in all_stands(manner)}, manner)
        if awaited is not None:
            self.assertEqual(told[1], awaited)

    def assert_restless(self, manner, awaited=None):
        told = rests(manner)
        self.assertEqual((told.__class__, len(told), told[0], told[1].__class__), (tuple, 2, "restless", list), manner)
        stand = first_by_the_words(manner)
        for number in told[1]:
            self.assertIn(number, may_do_by_the_words(manner, stand))
            stand = behind_by_the_words(manner, stand, number)
        self.assertIsNone(fewest_to_rest(manner, stand), manner)
        if awaited is not None:
            self.assertIn(told[1], awaited)


class ByHand(Asked):
    def test_at_once(self):
        self.assert_rests((0, ("a",), ()), {(("a",), (), 0): 0})
        self.assert_rests((20, ("go", "fall"), ()), {(("go", "fall"), (), 0): 0})

    def test_going_and_falling_leave_a_stand_at_rest(self):
        manner = (0, ("a",), ((0, "a", "go", "b", 0, ()), (0, "b", "fall", "a", 0, ())))
        self.assert_rests(manner, {(("a",), (), 0): 0, (("b",), (), 0): 0})
        self.assert_rests(cycles((3, 4)))

    def test_in_some_steps(self):
        self.assert_rests(ONE_LETTER, {
            (("a", "a"), (), 0): 0, (("b", "a"), ((1, "x"),), 0): 1, (("b", "b"), ((1, "x"),), 0): 0,
        })
        line = tuple((0, "s" + chr(97 + at), "x", "s" + chr(98 + at), 0, ()) for at in range(5))
        manner = (0, ("first",), ((0, "first", "go", "sa", 0, ((0, "x"),)),) + line)
        letters = ((0, "x"),)
        awaited = {(("s" + chr(97 + at),), letters, 0): 5 - at for at in range(6)}
        awaited[(("first",), (), 0)] = 0
        self.assert_rests(manner, awaited)

    def test_the_shorter_of_two_ways(self):
        rules = TO_AND_FRO[2] + ((0, "c", "fall", "d", 0, ()), (0, "d", "go", "e", 0, ()), (0, "b", "go", "f", 0, ()))
        letters = ((0, "x"),)
        self.assert_rests((0, ("a",), rules), {
            (("a",), (), 0): 0, (("b",), letters, 0): 1, (("c",), letters, 0): 1, (("d",), letters, 0): 0,
            (("e",), letters, 0): 0, (("f",), letters, 0): 0,
        })

    def test_a_letter_that_leaves_the_stand_as_it_is(self):
        rules = ((0, "a", "go", "b", 0, ((0, "x"),)), (0, "b", "x", "b", 0, ((0, "x"),)))
        self.assert_rests((0, ("a",), rules), {(("a",), (), 0): 0, (("b",), ((0, "x"),), 0): 0})

    def test_a_letter_that_changes_no_state_but_sends(self):
        rules = ((0, "a", "go", "b", 0, ((0, "x"),)), (0, "b", "x", "b", 0, ((0, "y"),)))
        self.assert_rests((0, ("a",), rules), {
            (("a",), (), 0): 0, (("b",), ((0, "x"),), 0): 1, (("b",), ((0, "x"), (0, "y")), 0): 0,
        })

    def test_never(self):
        self.assert_restless(TO_AND_FRO, ([0], [0, 1]))
        self.assert_restless((0, ("b",), (
            (0, "b", "go", "b", 0, ((0, "x"),)), (0, "b", "x", "c", 0, ()), (0, "c", "x", "b", 0, ()),
        )))

    def test_never_behind_one_of_two_ways(self):
        rules = tuple((0,) + rule[1:] for rule in TO_AND_FRO[2]) + ((0, "a", "fall", "d", 0, ()),)
        self.assert_restless((0, ("a",), rules))

    def test_a_fall_is_a_way_to_rest(self):
        rules = TO_AND_FRO[2] + ((0, "c", "fall", "z", 0, ()),)
        self.assert_rests((0, ("a",), rules))

    def test_of_2000_stands(self):
        self.assert_rests(cycles((10, 10, 20)), {stand: 0 for stand in all_stands(cycles((10, 10, 20)))})


class OfChance(Asked):
    def test_by_the_words(self):
        source = random.Random(141)
        kinds = []
        for _ in range(400):
            manner = lively_manner(source)
            fewest = [fewest_to_rest(manner, stand) for stand in all_stands(manner)]
            if None in fewest:
                kinds.append("restless")
                self.assert_restless(manner)
            else:
                kinds.append(max(fewest))
                self.assert_rests(manner)
        for kind in ("restless", 0, 1, 2):
            self.assertGreater(kinds.count(kind), 10, kind)


class Refusals(unittest.TestCase):
    def test_a_manner_that_breaks(self):
        for manner in (AT_ONCE, fans((8, 11, 19), True), fans((6, 8, 8, 8), True)):
            with self.assertRaises(NoStand):
                rests(manner)

    def test_too_many_stands(self):
        for manner in (fans((17, 37, 2), True), fans((17, 37, 2), False), cycles((13, 13, 13))):
            with self.assertRaises(TooMany):
                rests(manner)

    def test_broken_or_too_many_as_it_is_tried(self):
        source = random.Random(142)
        for _ in range(100):
            manner = (source.randint(0, 2),) + chance_manner(source)[1:]
            steps, number = breaks_at(manner, 2000)
            if number > 2000:
                with self.assertRaises(TooMany):
                    rests(manner)
            elif steps is not None:
                with self.assertRaises(NoStand):
                    rests(manner)
            else:
                self.assertIn(rests(manner)[0], ("rests", "restless"))

    def test_no_manner(self):
        wrong = ((21,) + AT_ONCE[1:], (1, (), ()), AT_ONCE[:2], list(AT_ONCE), AT_ONCE[:2] + (AT_ONCE[2] * 2,))
        for thing in wrong + tuple(other_things()):
            with self.assertRaises(NoManner):
                rests(thing)


class TheAskersOwn(unittest.TestCase):
    def test_what_is_told_is_new_each_time(self):
        for manner in (ONE_LETTER, TO_AND_FRO):
            told = rests(manner)
            before = (told[0], told[1].copy())
            told[1].clear()
            self.assertEqual(rests(manner), before)


if __name__ == "__main__":
    unittest.main()

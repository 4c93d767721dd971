"""Points 2 and 19: what is gathered over roads, by which moment, or why never."""

import copy
import itertools
import random
import unittest

from lendwharf.errors import NoHouse, NoRoad
from lendwharf.gathered import are_moments, gathered, gathers
from lendwharf.roads import asked, home

from tests.samples import HUGE
from tests.ways import (
    asked_by_the_words, chance_roads, gathers_by_the_words, home_by_the_words,
)

# House 0 asks 1, and 1 asks 2; what they have comes back the same way.
ROADS = [((0, 1),), ((1, 2),), ((2, 1),), ((1, 0),), ()]
RIGHTS = (2, 3, 4)
ALL_HOME = [(2, 2, 1, 4), (3, 1, 0, 7)]


def first_by_the_words(rights, roads, house, amount):
    homes = home_by_the_words(len(rights), roads, house)
    for moment in range(len(roads) + 1):
        there = [one for one in homes if homes[one] is not None and homes[one] <= moment]
        if sum(rights[one] for one in there) >= amount:
            return moment
    return None


def partings(amount, parts):
    """All ways to part an amount into so many parts from 0 on."""
    if parts == 1:
        yield (amount,)
        return
    for first in range(amount + 1):
        for rest in partings(amount - first, parts - 1):
            yield (first,) + rest


def behind_any_moves(has, roads, asked_by_now):
    """All that the houses may have behind a round, whatever they move in it."""
    choices = []
    for house, amount in enumerate(has):
        ways = [j for i, j in roads if i == house and house in asked_by_now]
        choices.append([list(zip([house] + ways, parting)) for parting in partings(amount, len(ways) + 1)])
    for choice in itertools.product(*choices):
        behind = [0] * len(has)
        for to, k in itertools.chain.from_iterable(choice):
            behind[to] += k
        yield tuple(behind)


def most_by_each_moment(rights, roads, house):
    asks = asked_by_the_words(len(rights), roads, house)
    stands = {tuple(rights)}
    told = [rights[house]]
    for number, ways in enumerate(roads):
        asked_by_now = [one for one in asks if asks[one] is not None and asks[one] <= number]
        stands = {behind for has in stands for behind in behind_any_moves(has, ways, asked_by_now)}
        told.append(max(has[house] for has in stands))
    return told


class Gathered(unittest.TestCase):
    def assert_told(self, rights, roads, house, amount):
        told = gathered(rights, roads, house, amount)
        self.assertIsInstance(told, tuple)
        n = len(rights)
        moment = first_by_the_words(rights, roads, house, amount)
        if moment is None:
            asks, homes = asked_by_the_words(n, roads, house), home_by_the_words(n, roads, house)
            self.assertEqual(told, ("short", asks, homes))
            self.assertIs(are_moments(n, roads, house, told[1], told[2]), True)
        else:
            self.assertEqual(len(told), 3)
            self.assertEqual(told[:2], ("gathered", moment))
            self.assertIsInstance(told[2], list)
            self.assertTrue(gathers_by_the_words(rights, roads, house, amount, moment, told[2]))
            self.assertIs(gathers(rights, roads, house, amount, moment, told[2]), True)
        return told[0]

    def test_at_moment_0(self):
        self.assertEqual(gathered(RIGHTS, ROADS, 0, 1), ("gathered", 0, []))
        self.assertEqual(gathered(RIGHTS, ROADS, 0, 2), ("gathered", 0, []))
        self.assertEqual(gathered((HUGE,), [], 0, HUGE), ("gathered", 0, []))

    def test_at_a_later_moment(self):
        for amount in range(3, 10):
            self.assertEqual(self.assert_told(RIGHTS, ROADS, 0, amount), "gathered")
            self.assertEqual(gathered(RIGHTS, ROADS, 0, amount)[1], 4)

    def test_one_house_after_another(self):
        roads = [((0, 1), (0, 2)), ((1, 0),), (), ((2, 0),)]
        moments = [gathered((1, 1, 1), roads, 0, amount)[1] for amount in (1, 2, 3)]
        self.assertEqual(moments, [0, 2, 4])
        self.assertEqual(gathered((1, 1, 1), roads, 0, 2)[2], [(1, 1, 0, 1)])

    def test_never(self):
        awaited = ("short", {0: 0, 1: 1, 2: 2}, {0: 0, 1: 4, 2: 4})
        self.assertEqual(gathered(RIGHTS, ROADS, 0, 10), awaited)
        self.assertEqual(gathered(RIGHTS, ROADS, 0, HUGE), awaited)
        self.assertEqual(gathered((1,), [], 0, 2), ("short", {0: 0}, {0: 0}))

    def test_asked_but_never_home(self):
        roads = [((1, 0),), ((0, 1),), ()]
        self.assertEqual(gathered((1, 5), roads, 0, 2), ("short", {0: 0, 1: 2}, {0: 0, 1: None}))

    def test_houses_without_rights_move_nothing(self):
        roads = [((0, 1), (0, 2)), ((1, 0), (2, 0))]
        self.assertEqual(gathered((0, 0, 5), roads, 0, 5), ("gathered", 2, [(1, 2, 0, 5)]))

    def test_over_a_house_that_is_asked_later(self):
        roads = [((0, 1),), ((1, 2),), ((2, 0),)]
        self.assertEqual(gathered((0, 3, 4), roads, 0, 7)[1], 3)
        self.assertEqual(self.assert_told((0, 3, 4), roads, 0, 7), "gathered")

    def test_of_chance_by_the_words(self):
        source = random.Random(71)
        kinds = {}
        for number in range(300):
            n = number % 8 + 1
            roads = chance_roads(n, source.choice([0, 2, 6, 12, 40]), source)
            rights = tuple(source.choice([0, 1, 3, HUGE]) for _ in range(n))
            house = source.randrange(n)
            for amount in (1, source.randint(1, 9), max(1, sum(rights)), sum(rights) + 1, max(1, sum(rights) // 2)):
                kind = self.assert_told(rights, roads, house, amount)
                kinds[kind] = kinds.get(kind, 0) + 1
        self.assertGreater(kinds["gathered"], 100)
        self.assertGreater(kinds["short"], 100)

    def test_no_moves_bring_as_much_earlier(self):
        source = random.Random(72)
        for number in range(60):
            n = number % 3 + 1
            roads = chance_roads(n, source.randint(0, 4), source)
            rights = tuple(source.randint(0, 2) for _ in range(n))
            for house in range(n):
                most = most_by_each_moment(rights, roads, house)
                for amount in range(1, sum(rights) + 2):
                    told = gathered(rights, roads, house, amount)
                    by = [moment for moment in range(len(roads) + 1) if most[moment] >= amount]
                    self.assertEqual(told[:2] if by else told[:1], ("gathered", by[0]) if by else ("short",))

    def test_what_is_told_is_new_and_what_is_handed_in_stays(self):
        roads = copy.deepcopy(ROADS)
        for amount in (9, 10):
            told = gathered(RIGHTS, roads, 0, amount)
            for part in gathered(RIGHTS, roads, 0, amount)[1:]:
                if isinstance(part, (list, dict)):
                    part.clear()
            self.assertEqual(gathered(RIGHTS, roads, 0, amount), told)
        self.assertEqual(roads, ROADS)


class Gathers(unittest.TestCase):
    def assert_gathers(self, awaited, moves, amount=9, moment=4, rights=RIGHTS, roads=ROADS, house=0):
        self.assertIs(gathers(rights, roads, house, amount, moment, moves), awaited, moves)

    def test_all_home(self):
        self.assert_gathers(True, ALL_HOME)
        self.assert_gathers(True, ALL_HOME, moment=5)
        self.assert_gathers(True, ALL_HOME, amount=8)
        self.assert_gathers(False, ALL_HOME, amount=10)

    def test_in_parts(self):
        self.assert_gathers(True, [(2, 2, 1, 1), (2, 2, 1, 3), (3, 1, 0, 3), (3, 1, 0, 4)])
        self.assert_gathers(False, [(2, 2, 1, 1), (2, 2, 1, 3), (3, 1, 0, 4), (3, 1, 0, 4)])
        self.assert_gathers(False, [(2, 2, 1, 2), (2, 2, 1, 3), (3, 1, 0, 7)])

    def test_by_no_road(self):
        for move in ((2, 2, 0, 4), (2, 0, 2, 1), (4, 1, 0, 1), (0, 1, 0, 1), (2, 9, 1, 1), (2, 2, -2, 1), (2, -1, 1, 1)):
            self.assert_gathers(False, [move], amount=1, moment=5)
        for number in (-1, -3, 5, 6, HUGE, -HUGE):
            self.assert_gathers(False, [(number, 2, 1, 1)], amount=1, moment=5)

    def test_too_early(self):
        roads = [((0, 1), (1, 0)), ((1, 0),)]
        self.assert_gathers(False, [(0, 1, 0, 1)], 1, 2, (0, 1), roads)
        self.assert_gathers(True, [(1, 1, 0, 1)], 1, 2, (0, 1), roads)
        self.assert_gathers(False, [(0, 1, 0, 1)], 1, 1, (5, 1), [((1, 0),)])

    def test_a_house_that_is_never_asked(self):
        self.assert_gathers(False, [(1, 1, 0, 1)], 1, 2, (5, 1), [((1, 0),), ((1, 0),)])

    def test_more_than_it_has(self):
        self.assert_gathers(False, [(3, 1, 0, 4)], amount=1)
        self.assert_gathers(True, [(3, 1, 0, 3)], amount=5)
        self.assert_gathers(False, [(2, 2, 1, 5), (3, 1, 0, 7)])

    def test_what_comes_in_a_round_goes_on_in_the_next(self):
        roads = [((0, 1),), ((1, 2),), ((1, 0), (2, 1))]
        self.assert_gathers(False, [(2, 2, 1, 4), (2, 1, 0, 4)], 4, 3, (0, 0, 4), roads)
        self.assert_gathers(False, [(2, 1, 0, 4), (2, 2, 1, 4)], 4, 3, (0, 0, 4), roads)
        self.assert_gathers(True, [(2, 1, 0, 1), (2, 2, 1, 4)], 1, 3, (0, 1, 4), roads)

    def test_amounts_below_one(self):
        for k in (0, -1, -HUGE):
            self.assert_gathers(False, [(3, 1, 0, k)], amount=1)
            self.assert_gathers(False, ALL_HOME + [(3, 1, 0, k)], amount=1)

    def test_rounds_that_fall(self):
        self.assert_gathers(False, ALL_HOME[::-1])
        self.assert_gathers(False, [(3, 1, 0, 1), (2, 2, 1, 1)], amount=1)
        self.assert_gathers(True, [(2, 2, 1, 1), (3, 1, 0, 1)], amount=1)

    def test_at_the_moment_itself(self):
        self.assert_gathers(False, ALL_HOME, amount=1, moment=3)
        self.assert_gathers(True, ALL_HOME[:1], amount=2, moment=3)
        self.assert_gathers(False, ALL_HOME[:1], amount=3, moment=3)

    def test_moment_0_and_the_last_one(self):
        self.assert_gathers(True, [], amount=2, moment=0)
        self.assert_gathers(False, [], amount=3, moment=0)
        self.assert_gathers(False, ALL_HOME, amount=2, moment=0)
        self.assert_gathers(True, ALL_HOME, moment=4, roads=ROADS[:4])
        self.assert_gathers(True, [], amount=1, moment=0, rights=(1,), roads=[])

    def test_moments_beyond(self):
        for moment in (-1, 6, HUGE, -HUGE):
            self.assert_gathers(False, [], amount=1, moment=moment)

    def test_what_the_house_moves_away_it_has_not(self):
        self.assert_gathers(True, [(0, 0, 1, 1)], amount=1)
        self.assert_gathers(False, [(0, 0, 1, 1)], amount=2)
        self.assert_gathers(True, [(0, 0, 1, 2), (2, 2, 1, 4), (3, 1, 0, 9)])

    def test_of_chance_by_the_words(self):
        source = random.Random(73)
        held = 0
        for number in range(3000):
            n = number % 3 + 1
            roads = chance_roads(n, source.randint(0, 6), source)
            rights = tuple(source.randint(0, 3) for _ in range(n))
            ways = [(at, i, j) for at, pairs in enumerate(roads) for i, j in pairs]
            moves = [source.choice(ways) + (source.randint(1, 2),) for _ in range(source.randint(0, 3)) if ways]
            if source.random() < 0.9:
                moves.sort()
            moment = source.choice([len(roads), source.randint(0, len(roads))])
            arguments = (rights, roads, source.randrange(n), source.randint(1, 3), moment, moves)
            awaited = gathers_by_the_words(*arguments)
            held += awaited and len(moves) > 0
            self.assertIs(gathers(*arguments), awaited, arguments)
        self.assertGreater(held, 50)

    def test_what_is_handed_in_stays(self):
        moves = list(ALL_HOME)
        self.assert_gathers(True, moves)
        self.assertEqual(moves, ALL_HOME)


class AreMoments(unittest.TestCase):
    def test_just_the_moments_told(self):
        source = random.Random(74)
        for number in range(60):
            n = number % 8 + 1
            roads = chance_roads(n, source.randint(0, 12), source)
            house = source.randrange(n)
            asks, homes = asked_by_the_words(n, roads, house), home_by_the_words(n, roads, house)
            self.assertIs(are_moments(n, roads, house, asks, homes), True)
            turned = dict(reversed(list(asks.items())))
            self.assertIs(are_moments(n, roads, house, turned, homes), True)

    def assert_none(self, asks, homes):
        self.assertIs(are_moments(3, ROADS, 0, asks, homes), False)

    def test_one_moment_changed(self):
        asks, homes = asked(3, ROADS, 0), home(3, ROADS, 0)
        for house in range(3):
            for change in (lambda moment: moment + 1, lambda moment: moment - 1, lambda moment: None):
                self.assert_none({**asks, house: change(asks[house])}, homes)
                self.assert_none(asks, {**homes, house: change(homes[house])})

    def test_none_changed_to_a_moment(self):
        roads = [((1, 0),), ()]
        never = {0: 0, 1: None}
        self.assertIs(are_moments(2, roads, 0, never, never), True)
        for moment in (0, 1, 2, 3):
            self.assertIs(are_moments(2, roads, 0, {0: 0, 1: moment}, never), False)
            self.assertIs(are_moments(2, roads, 0, never, {0: 0, 1: moment}), False)

    def test_a_house_too_few_or_too_many(self):
        asks, homes = asked(3, ROADS, 0), home(3, ROADS, 0)
        for house in range(3):
            fewer = [{one: moments[one] for one in moments if one != house} for moments in (asks, homes)]
            self.assert_none(fewer[0], homes)
            self.assert_none(asks, fewer[1])
        for house, moment in ((3, None), (3, 0), (-1, None), (HUGE, 4)):
            self.assert_none({**asks, house: moment}, homes)
            self.assert_none(asks, {**homes, house: moment})
        self.assert_none({}, {})
        self.assert_none({}, homes)
        self.assert_none(asks, {})

    def test_the_two_turned_about(self):
        self.assert_none(home(3, ROADS, 0), asked(3, ROADS, 0))

    def test_a_never_asked_house_must_be_there(self):
        self.assertIs(are_moments(2, [], 0, {0: 0}, {0: 0, 1: None}), False)
        self.assertIs(are_moments(2, [], 0, {0: 0, 1: None}, {0: 0}), False)
        self.assertIs(are_moments(2, [], 0, {0: 0, 1: None}, {0: 0, 1: None}), True)


class Refused(unittest.TestCase):
    def calls(self, n, roads, house):
        rights = (1,) * n
        return (
            lambda: gathered(rights, roads, house, 1),
            lambda: gathers(rights, roads, house, 1, 0, []),
            lambda: gathers(rights, roads, house, 1, 99, [(0, 0, 0, 0)]),
            lambda: are_moments(n, roads, house, {}, {}),
        )

    def test_no_road(self):
        for roads in ([()] * 41, [((0, 0),)], [((0, 3),)], [((1, 0), (0, 1))], [((0, 1), (0, 1))], [[(0, 1)]], ()):
            for house in (0, 3, -1):
                for call in self.calls(3, roads, house):
                    with self.assertRaises(NoRoad):
                        call()

    def test_no_house(self):
        for n in (1, 3, 8):
            for house in (-1, n, -n, HUGE):
                for call in self.calls(n, [()] * 2, house):
                    with self.assertRaises(NoHouse):
                        call()

    def test_roads_are_those_of_as_many_houses_as_rights(self):
        with self.assertRaises(NoRoad):
            gathered((1, 1), [((0, 2),)], 0, 1)
        with self.assertRaises(NoRoad):
            gathers((1, 1), [((0, 2),)], 2, 1, 0, [])


if __name__ == "__main__":
    unittest.main()

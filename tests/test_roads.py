"""Points 2, 18 and, as far as it tells of moments, 19: roads, and when one is asked and home."""

import copy
import random
import unittest

from lendwharf.errors import NoHouse, NoRoad
from lendwharf.roads import are_roads, asked, home

from tests.samples import HUGE, Touchy, other_things
from tests.ways import asked_by_the_words, chance_roads, home_by_the_words, pairs_of

NO_ROADS_OF_THREE = (
    (), None, ((0, 1),), (((0, 1),),), [[(0, 1)]], [([0, 1],)], [(0, 1)], [((0,),)], [((0, 1, 2),)], [((),)],
    [((0, 0),)], [((2, 2),)], [((0, 3),)], [((3, 0),)], [((-1, 0),)], [((0, -1),)], [((0, HUGE),)],
    [((0, 1), (0, 1))], [((0, 2), (0, 1))], [((1, 0), (0, 1))], [((0, 1), (1, 2), (1, 0))],
    [((0, True),)], [((False, 1),)], [((0, None),)], [((0, "1"),)], [((0, (1,)),)], [("01",)], [None], [()] * 41,
    [(), (), ((0, 0),)], [((0, 1),), None], [((0, 1), Touchy())], [((0, Touchy()),)], [Touchy()], [{}], [set()],
)


class AreRoads(unittest.TestCase):
    def test_no_rounds_and_rounds_without_roads(self):
        for n in range(1, 9):
            for rounds in (0, 1, 39, 40):
                self.assertIs(are_roads(n, [()] * rounds), True)
            self.assertIs(are_roads(n, [()] * 41), False)

    def test_40_and_41_full_rounds(self):
        full = tuple(pairs_of(8))
        self.assertIs(are_roads(8, [full] * 40), True)
        self.assertIs(are_roads(8, [full] * 41), False)

    def test_houses_of_n_alone(self):
        for n in range(1, 9):
            for i in range(-1, 9):
                for j in range(-1, 9):
                    awaited = i != j and 0 <= i < n and 0 <= j < n
                    self.assertIs(are_roads(n, [(), ((i, j),)]), awaited)

    def test_roads_of_chance(self):
        source = random.Random(61)
        for number in range(50):
            n = number % 8 + 1
            self.assertIs(are_roads(n, chance_roads(n, source.randint(0, 40), source)), True)

    def test_both_ways_between_two_houses(self):
        self.assertIs(are_roads(2, [((0, 1), (1, 0))]), True)

    def test_no_roads(self):
        for thing in NO_ROADS_OF_THREE:
            self.assertIs(are_roads(3, thing), False)

    def test_things_of_other_kinds(self):
        for number, thing in enumerate(other_things()):
            with self.subTest(number=number):
                self.assertIs(are_roads(8, thing), False)
                self.assertIs(are_roads(8, [thing]), False)
                self.assertIs(are_roads(8, [(thing,)]), False)
                a_road_after_all = thing.__class__ is int and thing == 1
                self.assertIs(are_roads(2, [((0, thing),)]), a_road_after_all)

    def test_numbers_of_houses_beyond(self):
        for n in (0, 9, -1, HUGE):
            self.assertIs(are_roads(n, []), False)
            self.assertIs(are_roads(n, [()]), False)


class Moments(unittest.TestCase):
    def test_a_row_of_houses(self):
        roads = [((0, 1),), ((1, 2),), ((2, 1),), ((1, 0),)]
        self.assertEqual(asked(3, roads, 0), {0: 0, 1: 1, 2: 2})
        self.assertEqual(home(3, roads, 0), {0: 0, 1: 4, 2: 4})

    def test_one_road_a_round(self):
        self.assertEqual(asked(3, [((0, 1), (1, 2))], 0), {0: 0, 1: 1, 2: None})
        self.assertEqual(asked(3, [((0, 1), (1, 2))] * 2, 0), {0: 0, 1: 1, 2: 2})

    def test_waiting(self):
        roads = [(), (), ((0, 1),), (), (), ((1, 0),), ()]
        self.assertEqual(asked(2, roads, 0), {0: 0, 1: 3})
        self.assertEqual(home(2, roads, 0), {0: 0, 1: 6})

    def test_asked_but_never_home(self):
        self.assertEqual(asked(2, [((1, 0),), ((0, 1),)], 0), {0: 0, 1: 2})
        self.assertEqual(home(2, [((1, 0),), ((0, 1),)], 0), {0: 0, 1: None})

    def test_never_asked(self):
        self.assertEqual(asked(2, [((1, 0),)] * 3, 0), {0: 0, 1: None})
        self.assertEqual(home(2, [((1, 0),)] * 3, 0), {0: 0, 1: None})

    def test_not_home_by_a_road_ahead_of_the_asking(self):
        roads = [((0, 1), (1, 0)), ((1, 0),)]
        self.assertEqual(home(2, roads, 0), {0: 0, 1: 2})

    def test_no_rounds_and_one_house(self):
        for call in (asked, home):
            self.assertEqual(call(1, [], 0), {0: 0})
            self.assertEqual(call(1, [()] * 40, 0), {0: 0})
            self.assertEqual(call(3, [], 1), {0: None, 1: 0, 2: None})

    def test_by_the_words(self):
        source = random.Random(62)
        for number in range(200):
            n = number % 8 + 1
            roads = chance_roads(n, source.choice([0, 1, 3, 10, 40]), source)
            for house in range(n):
                self.assertEqual(asked(n, roads, house), asked_by_the_words(n, roads, house))
                self.assertEqual(home(n, roads, house), home_by_the_words(n, roads, house))

    def test_the_last_round_counts(self):
        roads = [()] * 38 + [((0, 1),), ((1, 0),)]
        self.assertEqual(asked(2, roads, 0), {0: 0, 1: 39})
        self.assertEqual(home(2, roads, 0), {0: 0, 1: 40})


class Refused(unittest.TestCase):
    def test_no_road(self):
        for thing in NO_ROADS_OF_THREE:
            for call in (asked, home):
                with self.assertRaises(NoRoad):
                    call(3, thing, 0)

    def test_no_house(self):
        for n in (1, 3, 8):
            for house in (-1, n, n + 1, -n, HUGE, -HUGE):
                for call in (asked, home):
                    with self.assertRaises(NoHouse):
                        call(n, [()], house)

    def test_no_road_goes_ahead_of_no_house(self):
        for call in (asked, home):
            with self.assertRaises(NoRoad):
                call(3, [((0, 0),)], 9)

    def test_what_is_handed_in_stays_and_what_is_told_is_new(self):
        roads = [((0, 1),), ((1, 0),)]
        before = copy.deepcopy(roads)
        for call in (asked, home):
            told = call(2, roads, 0)
            call(2, roads, 0).clear()
            self.assertEqual(call(2, roads, 0), told)
        self.assertEqual(roads, before)


if __name__ == "__main__":
    unittest.main()

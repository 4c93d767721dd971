"""Points 2, 20 and 21: a plan's question, whether a plan holds, what a cut weighs."""

import copy
import itertools
import random
import unittest

from lendwharf.errors import NoPlan
from lendwharf.plans import is_plan, is_question, weight

from tests.questions import MILLION, all_cuts, all_plans, chance_question, is_plan_by_the_words, weight_by_the_words
from tests.samples import HUGE, Touchy, other_things

# House 0 has 5, house 1 has 1, house 2 nothing; two rounds.
START = (5, 1, 0)
ROADS = (((0, 1, 3), (1, 2, 2)), ((0, 2, 1), (1, 2, 4)))
TAKINGS = ((0, 0, 2), (1, 1, 1), (2, 2, 9))
QUESTION = (START, ROADS, TAKINGS)
# 2 served at 0; 3 go to 1, 1 goes on to 2; 1 served at 1; 2 go on to 2, and all 3 there are served.
MOVES = [(0, 0, 1, 3), (0, 1, 2, 1), (1, 1, 2, 2)]
SERVED = [2, 1, 3]


class IsQuestion(unittest.TestCase):
    def assert_question(self, awaited, start=START, roads=ROADS, takings=TAKINGS):
        self.assertIs(is_question((start, roads, takings)), awaited)

    def test_ordinary_ones(self):
        self.assert_question(True)
        self.assert_question(True, roads=(), takings=())
        self.assert_question(True, (0,), (), ((0, 0, 1),))
        source = random.Random(81)
        for _ in range(200):
            self.assertIs(is_question(chance_question(source, 6, 10, MILLION)), True)

    def test_bounds_of_the_start(self):
        for n in range(1, 7):
            self.assert_question(True, (0,) * n, (), ())
            self.assert_question(True, (MILLION,) * n, (), ())
        self.assert_question(False, (), (), ())
        self.assert_question(False, (0,) * 7, (), ())
        for house in range(3):
            for wrong in (MILLION + 1, -1, True, False, None, "1", (1,), HUGE, Touchy()):
                self.assert_question(False, START[:house] + (wrong,) + START[house + 1:])

    def test_bounds_of_the_roads(self):
        for rounds, awaited in ((0, True), (10, True), (11, False)):
            self.assert_question(awaited, roads=((),) * rounds, takings=())
            self.assert_question(awaited, roads=(((0, 1, 1),),) * rounds, takings=())
        for most, awaited in ((1, True), (MILLION, True), (0, False), (-1, False), (MILLION + 1, False)):
            self.assert_question(awaited, roads=(((0, 1, most),),), takings=())
        for road in ((0, 0, 1), (2, 2, 1), (0, 3, 1), (3, 0, 1), (-1, 0, 1), (0, -1, 1), (0, 1), (0, 1, 1, 1), ()):
            self.assert_question(False, roads=((road,),), takings=())

    def test_roads_rise_without_two_of_one_pair(self):
        self.assert_question(True, roads=(((0, 1, 9), (0, 2, 1), (1, 0, 5)),), takings=())
        self.assert_question(False, roads=(((0, 2, 1), (0, 1, 9)),), takings=())
        self.assert_question(False, roads=(((0, 1, 1), (0, 1, 2)),), takings=())
        self.assert_question(False, roads=(((0, 1, 2), (0, 1, 1)),), takings=())
        self.assert_question(False, roads=(((0, 1, 2), (0, 1, 2)),), takings=())
        self.assert_question(False, roads=(((0, 1, 1), (1, 0, 1), (0, 1, 2)),), takings=())
        self.assert_question(False, roads=((), ((1, 0, 1), (0, 1, 1))), takings=())

    def test_bounds_of_the_takings(self):
        for number, awaited in ((0, True), (20, True), (21, False)):
            self.assert_question(awaited, takings=((1, 1, 1),) * number)
        for moment, awaited in ((0, True), (2, True), (3, False), (-1, False)):
            self.assert_question(awaited, takings=((moment, 0, 1),))
        for house, awaited in ((0, True), (2, True), (3, False), (-1, False)):
            self.assert_question(awaited, takings=((0, house, 1),))
        for k, awaited in ((1, True), (MILLION, True), (0, False), (-1, False), (MILLION + 1, False)):
            self.assert_question(awaited, takings=((0, 0, k),))
        for taking in ((0, 0), (0, 0, 1, 1), (), [0, 0, 1]):
            self.assert_question(False, takings=(taking,))

    def test_takings_in_any_order(self):
        self.assert_question(True, takings=TAKINGS[::-1])
        self.assert_question(True, takings=((2, 2, 1), (0, 1, 5), (2, 2, 1), (1, 0, 3)))

    def test_lists_for_tuples(self):
        self.assertIs(is_question(list(QUESTION)), False)
        self.assert_question(False, start=list(START))
        self.assert_question(False, roads=list(ROADS))
        self.assert_question(False, roads=([], ()))
        self.assert_question(False, roads=(([0, 1, 3],), ()))
        self.assert_question(False, takings=list(TAKINGS))

    def test_wrong_numbers_of_parts(self):
        for thing in (QUESTION[:2], QUESTION + ((),), (), (QUESTION,), QUESTION[:1]):
            self.assertIs(is_question(thing), False)

    def test_things_of_other_kinds_at_each_place(self):
        for number, thing in enumerate(other_things()):
            with self.subTest(number=number):
                self.assertIs(is_question(thing), False)
                self.assert_question(False, roads=thing)
                self.assert_question(False, takings=thing)
                self.assert_question(False, roads=(thing, ()))
                self.assert_question(False, roads=((thing,), ()))
                self.assert_question(False, takings=(thing,))
                if thing.__class__ is not int:
                    self.assert_question(False, start=(thing, 0, 0))
                    for place in range(3):
                        road = ((0, 1, 1)[:place] + (thing,) + (0, 1, 1)[place + 1:])
                        self.assert_question(False, roads=((road,), ()), takings=())
                        taking = ((0, 0, 1)[:place] + (thing,) + (0, 0, 1)[place + 1:])
                        self.assert_question(False, takings=(taking,))
        for start in (None, 3, "abc", {}, range(3), Touchy(), (Touchy(),) * 3, ((1,), (2,))):
            self.assert_question(False, start=start)


class IsPlan(unittest.TestCase):
    def assert_plan(self, awaited, moves=None, served=None, question=QUESTION):
        plan = (MOVES if moves is None else moves, SERVED if served is None else served)
        self.assertIs(is_plan(question, plan), awaited, plan)
        self.assertIs(is_plan_by_the_words(question, plan), awaited, plan)

    def test_ordinary_ones(self):
        self.assert_plan(True)
        self.assert_plan(True, [], [0, 0, 0])
        self.assert_plan(True, [], [2, 1, 0])
        self.assert_plan(True, served=[0, 0, 0])
        self.assert_plan(True, [], [], ((4,), (), ()))

    def test_moves_in_any_order_and_in_parts(self):
        for moves in itertools.permutations(MOVES):
            self.assert_plan(True, list(moves))
        self.assert_plan(True, [(0, 0, 1, 1), (1, 1, 2, 2), (0, 0, 1, 2), (0, 1, 2, 1)])

    def test_served_more_than_there_is(self):
        self.assert_plan(False, served=[2, 1, 4])
        self.assert_plan(False, [], [0, 0, 1])
        self.assert_plan(False, [(0, 0, 1, 3)], [3, 0, 0])
        self.assert_plan(True, [], [5], ((5,), (), ((0, 0, 9),)))
        self.assert_plan(False, [], [6], ((5,), (), ((0, 0, 9),)))
        self.assert_plan(False, [], [3, 3], ((5,), (), ((0, 0, 9), (0, 0, 9))))
        self.assert_plan(True, [], [3, 2], ((5,), (), ((0, 0, 9), (0, 0, 9))))
        self.assert_plan(False, [], [3, 3], ((5,), ((),), ((0, 0, 9), (1, 0, 9))))

    def test_served_above_its_k_or_below_nought(self):
        self.assert_plan(False, [], [3, 0, 0])
        self.assert_plan(False, [], [0, 2, 0])
        self.assert_plan(False, [], [-1, 0, 0])
        self.assert_plan(False, [], [2, 1, -1])

    def test_wrong_numbers_of_served_ones(self):
        for served in ([], [2], [2, 1], [2, 1, 3, 0], [0] * 20):
            self.assert_plan(False, served=served)
        self.assert_plan(False, [], [0], ((5,), (), ()))

    def test_by_no_road(self):
        wrong = (
            (0, 0, 2, 1), (1, 0, 1, 1), (0, 1, 0, 1), (0, 2, 1, 1), (0, 0, 0, 1), (2, 0, 1, 1), (2, 1, 2, 1),
            (-1, 0, 2, 1), (-2, 0, 1, 1), (3, 0, 1, 1), (HUGE, 0, 1, 1), (0, -3, 1, 1), (0, 0, -2, 1), (0, 3, 1, 1),
        )
        for move in wrong:
            self.assert_plan(False, [move], [0, 0, 0])

    def test_amounts_below_one(self):
        for k in (0, -1, -HUGE):
            self.assert_plan(False, [(0, 0, 1, k)], [0, 0, 0])
            self.assert_plan(False, MOVES + [(0, 0, 1, k)])

    def test_above_a_roads_most(self):
        self.assert_plan(True, [(0, 0, 1, 3)], [0, 0, 0])
        self.assert_plan(False, [(0, 0, 1, 4)], [0, 0, 0])
        self.assert_plan(False, [(0, 0, 1, 2), (0, 0, 1, 2)], [0, 0, 0])
        self.assert_plan(True, [(0, 0, 1, 2), (0, 0, 1, 1)], [0, 0, 0])
        both = (((9, 9), (((0, 1, 2), (1, 0, 2)), ((0, 1, 2),)), ()))
        self.assert_plan(True, [(0, 0, 1, 2), (0, 1, 0, 2), (1, 0, 1, 2)], [], both)

    def test_moved_more_than_it_has(self):
        self.assert_plan(False, [(0, 1, 2, 2)], [0, 0, 0])
        self.assert_plan(False, [(0, 0, 1, 3), (0, 1, 2, 2)], [0, 0, 0])
        self.assert_plan(False, [(0, 0, 1, 3), (1, 1, 2, 4)], [0, 1, 0])
        self.assert_plan(True, [(0, 0, 1, 3), (1, 1, 2, 4)], [0, 0, 0])
        two_ways = ((3, 0, 0), (((0, 1, 9), (0, 2, 9)),), ())
        self.assert_plan(True, [(0, 0, 1, 1), (0, 0, 2, 2)], [], two_ways)
        self.assert_plan(False, [(0, 0, 1, 2), (0, 0, 2, 2)], [], two_ways)

    def test_served_ahead_of_what_is_moved_then(self):
        question = ((3, 0), (((0, 1, 9),), ()), ((0, 0, 9), (0, 1, 9), (1, 1, 9), (1, 0, 9)))
        self.assert_plan(True, [(0, 0, 1, 1)], [2, 0, 1, 0], question)
        self.assert_plan(False, [(0, 0, 1, 2)], [2, 0, 0, 0], question)
        self.assert_plan(False, [(0, 0, 1, 1)], [0, 1, 0, 0], question)
        self.assert_plan(True, [(0, 0, 1, 1)], [0, 0, 1, 2], question)
        self.assert_plan(False, [(0, 0, 1, 1)], [0, 0, 1, 3], question)

    def test_waiting(self):
        question = ((2, 0), ((), (), ((0, 1, 9),)), ((3, 1, 9), (3, 0, 9)))
        self.assert_plan(True, [(2, 0, 1, 1)], [1, 1], question)
        self.assert_plan(False, [(2, 0, 1, 1)], [1, 2], question)

    def test_of_chance_by_the_words(self):
        source = random.Random(82)
        held = 0
        for _ in range(6000):
            question = chance_question(source)
            ways = [(at, i, j) for at, pairs in enumerate(question[1]) for i, j, most in pairs] or [(0, 0, 1)]
            moves = [source.choice(ways) + (source.randint(1, 2),) for _ in range(source.randint(0, 3))]
            served = [source.randint(0, min(2, k)) for moment, house, k in question[2]]
            awaited = is_plan_by_the_words(question, (moves, served))
            held += awaited and len(moves) > 0 and sum(served) > 0
            self.assertIs(is_plan(question, (moves, served)), awaited, (question, moves, served))
        self.assertGreater(held, 100)

    def test_what_is_handed_in_stays(self):
        plan = (list(MOVES), list(SERVED))
        self.assertIs(is_plan(QUESTION, plan), True)
        self.assertEqual(plan, (MOVES, SERVED))


class Weight(unittest.TestCase):
    def test_added_up_by_hand(self):
        self.assertEqual(weight(QUESTION, []), 6)
        self.assertEqual(weight(QUESTION, [(0, 0), (0, 1), (0, 2)]), 1 + 3 + 1 + 2)
        self.assertEqual(weight(QUESTION, [(2, 2)]), 6 + 9)
        self.assertEqual(weight(QUESTION, [(1, 0), (1, 1), (1, 2)]), 5 + 2 + 4 + 1)
        self.assertEqual(weight(QUESTION, [(1, 1), (1, 2)]), 6 + 4 + 1)
        self.assertEqual(weight(QUESTION, [(1, 2)]), 6)
        everything = [(house, moment) for house in range(3) for moment in range(3)]
        self.assertEqual(weight(QUESTION, everything), 2 + 1 + 9)

    def test_a_road_leads_to_the_next_moment(self):
        question = ((7, 0), (((0, 1, 2),),), ((1, 1, 4),))
        self.assertEqual(weight(question, [(0, 0), (0, 1)]), 2)
        self.assertEqual(weight(question, [(0, 0), (0, 1), (1, 1)]), 4)
        self.assertEqual(weight(question, [(0, 1), (1, 1)]), 7 + 4)
        self.assertEqual(weight(question, [(0, 0), (0, 1), (1, 0), (1, 1)]), 4)

    def test_several_takings_at_one_place(self):
        question = ((7,), (), ((0, 0, 2), (0, 0, 3), (0, 0, 2)))
        self.assertEqual(weight(question, [(0, 0)]), 7)
        self.assertEqual(weight(question, []), 7)
        self.assertEqual(weight(question[:2] + (question[2][:2],), [(0, 0)]), 5)

    def test_by_the_words(self):
        source = random.Random(83)
        for _ in range(60):
            question = chance_question(source)
            for cut in all_cuts(question):
                self.assertEqual(weight(question, cut), weight_by_the_words(question, cut))

    def test_the_greatest_question(self):
        pairs = tuple((i, j, MILLION) for i, j in itertools.permutations(range(6), 2))
        question = ((MILLION,) * 6, (pairs,) * 10, ((10, 5, MILLION),) * 20)
        places = [(house, moment) for house in range(6) for moment in range(11)]
        self.assertEqual(weight(question, []), 6 * MILLION)
        self.assertEqual(weight(question, places), 20 * MILLION)
        self.assertEqual(weight(question, places[:11]), (5 + 5 * 10) * MILLION)

    def test_no_plan_serves_more_and_some_as_much_as_the_least_weight(self):
        source = random.Random(84)
        for _ in range(60):
            question = chance_question(source, 3, 2, 2)
            most = 0
            for plan in all_plans(question):
                self.assertIs(is_plan(question, plan), True)
                most = max(most, sum(plan[1]))
            self.assertEqual(min(weight(question, cut) for cut in all_cuts(question)), most)

    def test_no_cuts(self):
        wrong = (
            [(0, 2), (0, 1)], [(0, 2), (0, 2)], [(1, 2), (0, 2)], [(0, 1), (0, 2), (0, 2)],
            [(0, 0)], [(0, 1)], [(0, 0), (0, 1)], [(0, 0), (0, 2)], [(0, 0), (0, 1), (1, 2)], [(0, 1), (1, 2)],
            [(3, 2)], [(-1, 2)], [(0, 3)], [(0, -1)], [(0, -1), (0, 0), (0, 1), (0, 2)], [(0, 2), (0, 3)],
            [(0, 2), (3, 2)], [(HUGE, 2)], [(0, HUGE)],
        )
        for cut in wrong:
            with self.subTest(cut=cut):
                with self.assertRaises(NoPlan):
                    weight(QUESTION, cut)

    def test_what_is_handed_in_stays(self):
        cut = [(0, 0), (0, 1), (0, 2)]
        before = copy.deepcopy(cut)
        weight(QUESTION, cut)
        self.assertEqual(cut, before)


class NoQuestion(unittest.TestCase):
    def test_no_plan_ahead_of_all(self):
        wrong = (
            (), None, list(QUESTION), QUESTION[:2], ((), (), ()), ((0,) * 7, (), ()), (START, ROADS, ((3, 0, 1),)),
            (START, (((0, 0, 1),),), ()), (START, list(ROADS), TAKINGS), (START, ((),) * 11, ()),
        )
        for question in wrong:
            for plan in ((MOVES, SERVED), ([], []), ([(9, 9, 9, 9)], [9])):
                with self.assertRaises(NoPlan):
                    is_plan(question, plan)
            for cut in ([], [(0, 0)], [(9, 9)]):
                with self.assertRaises(NoPlan):
                    weight(question, cut)


if __name__ == "__main__":
    unittest.main()

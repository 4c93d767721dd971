"""Points 2 and 20 to 22: the most that any plan serves, and first come, first served."""

import itertools
import random
import unittest

from lendwharf.errors import NoPlan
from lendwharf.plans import is_plan, weight
from lendwharf.served import best, first_served

from tests.questions import MILLION, all_cuts, all_plans, chance_question, is_plan_by_the_words, weight_by_the_words
from tests.samples import other_things

NO_ROUNDS = ((5, 2), (), ((0, 0, 3), (0, 1, 4), (0, 0, 9)))
# One road, which binds: 5 are at 0, 2 of them go to 1.
ONE_ROAD = ((5, 0), (((0, 1, 2),),), ((0, 0, 1), (1, 1, 4)))
# The first taking may be served by either house, the second one by house 1 alone.
CALLED_BACK = ((1, 1, 0), (((0, 2, 1), (1, 2, 1)), ()), ((1, 2, 1), (2, 1, 1)))


def least_weight(question):
    return min(weight_by_the_words(question, cut) for cut in all_cuts(question))


def served_by_the_cuts(question):
    """Point 22: of the takings up to one the most is the least weight with these alone."""
    start, roads, takings = question
    mosts = [least_weight((start, roads, takings[:number])) for number in range(len(takings) + 1)]
    return [later - earlier for earlier, later in zip(mosts, mosts[1:])]


def served_by_the_words(question):
    """Point 22: of all plans those that serve most of the first taking, of these most of the second."""
    served = [plan[1] for plan in all_plans(question)]
    for number in range(len(question[2])):
        most = max(one[number] for one in served)
        served = [one for one in served if one[number] == most]
    assert len(set(map(tuple, served))) == 1
    return served[0]


def greatest_question(start, most, takings):
    pairs = tuple((i, j, most) for i, j in itertools.permutations(range(6), 2))
    return (start, (pairs,) * 10, takings)


class Asked(unittest.TestCase):
    def assert_most(self, question, awaited=None):
        most, plan, cut = best(question)
        self.assertIs(is_plan(question, plan), True, (question, plan))
        self.assertIs(is_plan_by_the_words(question, plan), True, (question, plan))
        self.assertEqual(sum(plan[1]), most, question)
        self.assertEqual(weight(question, cut), most, question)
        self.assertEqual(weight_by_the_words(question, cut), most, question)
        self.assert_kinds(plan)
        self.assertIs(cut.__class__, list)
        if awaited is not None:
            self.assertEqual(most, awaited, question)

    def assert_served(self, question, awaited=None):
        served, plan = first_served(question)
        self.assertEqual(plan[1], served, question)
        self.assertIs(is_plan(question, plan), True, (question, plan))
        self.assertIs(is_plan_by_the_words(question, plan), True, (question, plan))
        self.assert_kinds(plan)
        self.assertIs(served.__class__, list)
        if awaited is not None:
            self.assertEqual(served, awaited, question)
        self.assertEqual(sum(served), best(question)[0], question)

    def assert_kinds(self, plan):
        self.assertIs(plan.__class__, tuple)
        self.assertEqual([part.__class__ for part in plan], [list, list])
        self.assertTrue(all(move.__class__ is tuple and len(move) == 4 for move in plan[0]))

    def assert_both(self, question, served):
        self.assert_most(question, sum(served))
        self.assert_served(question, served)


class ByHand(Asked):
    def test_no_rounds(self):
        self.assert_both(NO_ROUNDS, [3, 2, 2])
        self.assert_both(((0,), (), ((0, 0, 7),)), [0])
        self.assert_both(((7,), (), ((0, 0, 7),)), [7])

    def test_no_takings(self):
        self.assert_both(((5, 2), (), ()), [])
        self.assert_both(((5, 2), (((0, 1, 3),), ()), ()), [])

    def test_a_road_that_binds_and_one_that_does_not(self):
        self.assert_both(ONE_ROAD, [1, 2])
        self.assert_both(((5, 0), (((0, 1, 9),),), ((0, 0, 1), (1, 1, 4))), [1, 4])
        self.assert_both(((5, 0), (((0, 1, 9),),), ((0, 0, 1), (1, 1, 9))), [1, 4])
        self.assert_both(((5, 0), (((1, 0, 9),),), ((0, 0, 1), (1, 1, 9))), [1, 0])

    def test_one_house_at_several_moments(self):
        late_first = ((5,), ((), ()), ((2, 0, 3), (0, 0, 3), (1, 0, 3)))
        self.assert_both(late_first, [3, 2, 0])
        in_time = ((0, 6), (((1, 0, 2),), ((1, 0, 2),)), ((2, 0, 3), (0, 0, 1), (1, 0, 3), (2, 0, 3)))
        self.assert_both(in_time, [3, 0, 1, 0])

    def test_the_earlier_taking_goes_first_whatever_its_moment(self):
        takings = ((0, 0, 4), (2, 1, 4))
        question = ((5, 0), (((0, 1, 9),), ()), takings)
        self.assert_both(question, [4, 1])
        self.assert_both(question[:2] + (takings[::-1],), [4, 1])

    def test_what_was_sent_is_called_back_but_not_what_was_served(self):
        self.assert_both(CALLED_BACK, [1, 1])
        self.assert_both(CALLED_BACK[:2] + (CALLED_BACK[2][::-1],), [1, 1])
        self.assert_both(((1, 0), (((0, 1, 1),),), ((1, 1, 1), (0, 0, 1))), [1, 0])

    def test_two_takings_at_one_place(self):
        self.assert_both(((3,), (), ((0, 0, 2), (0, 0, 2), (0, 0, 2))), [2, 1, 0])

    def test_a_long_way(self):
        roads = tuple(((house, house + 1, 3 + house),) for house in range(5))
        self.assert_both(((9, 0, 0, 0, 0, 0), roads, ((5, 5, 9),)), [3])
        self.assert_both(((9, 0, 0, 0, 0, 0), roads, ((4, 5, 9),)), [0])
        self.assert_both(((9, 1, 0, 0, 0, 0), roads, ((1, 1, 2), (5, 5, 9))), [2, 2])

    def test_the_greatest_questions(self):
        takings = tuple((10, number % 6, MILLION) for number in range(20))
        self.assert_both(greatest_question((MILLION,) * 6, MILLION, takings), [MILLION] * 6 + [0] * 14)
        self.assert_both(greatest_question((MILLION,) * 6, 1, takings[:1] * 20), [MILLION] + [50] + [0] * 18)

    def test_whole_just_where_the_most_is_the_sum(self):
        self.assertEqual(first_served(((7,), (), ((0, 0, 3), (0, 0, 4))))[0], [3, 4])
        self.assertEqual(first_served(((6,), (), ((0, 0, 3), (0, 0, 4))))[0], [3, 3])


class OfChance(Asked):
    def test_small_ones_against_every_plan(self):
        source = random.Random(91)
        for _ in range(120):
            question = chance_question(source, 3, 2, 2)
            self.assert_most(question, max(sum(plan[1]) for plan in all_plans(question)))
            self.assert_served(question, served_by_the_words(question))

    def test_greater_ones_against_every_cut(self):
        source = random.Random(92)
        for _ in range(120):
            question = chance_question(source, 4, 3, source.choice([2, 5, MILLION]))
            self.assert_most(question, least_weight(question))
            self.assert_served(question, served_by_the_cuts(question))

    def test_very_great_ones_by_their_own_papers(self):
        source = random.Random(93)
        pairs = list(itertools.permutations(range(6), 2))
        for most in (1, 7, MILLION):
            for _ in range(4):
                roads = tuple(
                    tuple((i, j, source.randint(1, most)) for i, j in pairs if source.random() < 0.4) for _ in range(10)
                )
                takings = tuple(
                    (source.randint(0, 10), source.randrange(6), source.randint(1, most)) for _ in range(20)
                )
                question = (tuple(source.randint(0, most) for _ in range(6)), roads, takings)
                self.assert_most(question)
                self.assert_served(question)
                self.assert_prefixes(question)

    def assert_prefixes(self, question):
        # Up to each taking so much is served as the most with these takings alone.
        served = first_served(question)[0]
        for number in range(len(served) + 1):
            alone = question[:2] + (question[2][:number],)
            self.assertEqual(sum(served[:number]), best(alone)[0])


class TheAskersOwn(unittest.TestCase):
    def test_what_is_told_is_new_each_time(self):
        for question in (NO_ROUNDS, ONE_ROAD, CALLED_BACK):
            most, plan, cut = best(question)
            told = (most, (list(plan[0]), list(plan[1])), list(cut))
            plan[0].append("a")
            plan[1].append("b")
            cut.append("c")
            self.assertEqual(best(question), told)

    def test_served_is_another_list_than_the_plans(self):
        served, plan = first_served(ONE_ROAD)
        served.append(99)
        self.assertEqual(plan, ([(0, 0, 1, 2)], [1, 2]))
        plan[0].clear()
        plan[1].clear()
        self.assertEqual(first_served(ONE_ROAD), ([1, 2], ([(0, 0, 1, 2)], [1, 2])))


class NoQuestion(unittest.TestCase):
    def test_things_that_are_no_questions(self):
        wrong = (
            list(ONE_ROAD), ONE_ROAD[:2], ((), (), ()), ((0,) * 7, (), ()), ((5, 0), (((0, 0, 1),),), ()),
            ((5, 0), [], ()), ((5, 0), ((),) * 11, ()), ((5, 0), (), ((1, 0, 1),)), ((5, 0), (), ((0, 2, 1),)),
            ((5, 0), (), ((0, 0, 1),) * 21), ((5, 0), (), ((0, 0, 0),)), ((True, 0), (), ()), ((MILLION + 1,), (), ()),
        )
        for thing in wrong + tuple(other_things()):
            with self.assertRaises(NoPlan):
                best(thing)
            with self.assertRaises(NoPlan):
                first_served(thing)


if __name__ == "__main__":
    unittest.main()

"""Plans of takings: a plan's question, whether a plan holds, what a cut weighs."""

from lendwharf.errors import NoPlan
from lendwharf.looks import is_between, is_rising, is_sized_tuple
from lendwharf.roads import behind_round, is_road

MOST_HOUSES_OF_PLAN = 6
MOST_ROUNDS_OF_PLAN = 10
MOST_TAKINGS = 20
MOST_AT_ONCE = 1000000


def is_start(thing):
    if not is_sized_tuple(thing, 1, MOST_HOUSES_OF_PLAN):
        return False
    return all([is_between(part, 0, MOST_AT_ONCE) for part in thing])


def is_road_with_most(n, thing):
    return is_sized_tuple(thing, 3, 3) and is_road(n, thing[:2]) and is_between(thing[2], 1, MOST_AT_ONCE)


def are_roads_of_one_round(n, thing):
    if not isinstance(thing, tuple) or not all([is_road_with_most(n, road) for road in thing]):
        return False
    return is_rising([road[:2] for road in thing])


def are_roads_of_plan(n, thing):
    return is_sized_tuple(thing, 0, MOST_ROUNDS_OF_PLAN) and all([are_roads_of_one_round(n, part) for part in thing])


def is_place(n, rounds, house, moment):
    return is_between(house, 0, n - 1) and is_between(moment, 0, rounds)


def is_taking(n, rounds, thing):
    if not is_sized_tuple(thing, 3, 3) or not is_place(n, rounds, thing[1], thing[0]):
        return False
    return is_between(thing[2], 1, MOST_AT_ONCE)


def are_takings(n, rounds, thing):
    return is_sized_tuple(thing, 0, MOST_TAKINGS) and all([is_taking(n, rounds, part) for part in thing])


def is_question(thing):
    if not is_sized_tuple(thing, 3, 3) or not is_start(thing[0]):
        return False
    n = len(thing[0])
    return are_roads_of_plan(n, thing[1]) and are_takings(n, len(thing[1]), thing[2])


def need_question(question):
    if not is_question(question):
        raise NoPlan("this is no question of a plan")


def loads_of(moves):
    loads = {}
    for number, i, j, k in moves:
        loads[(number, i, j)] = loads.get((number, i, j), 0) + k
    return loads


def most_by(roads, number, i, j):
    # Where no road leads nothing goes: its most is 0.
    if not 0 <= number < len(roads):
        return 0
    return sum([road[2] for road in roads[number] if road[:2] == (i, j)])


def do_roads_bear(roads, moves):
    if any([move[3] < 1 for move in moves]):
        return False
    return all([load <= most_by(roads, at[0], at[1], at[2]) for at, load in loads_of(moves).items()])


def are_served(takings, served):
    if len(served) != len(takings):
        return False
    return all([0 <= amount <= taking[2] for taking, amount in zip(takings, served)])


def behind_takings(takings, served, has, moment):
    left = list(has)
    for taking, amount in zip(takings, served):
        if taking[0] == moment:
            left[taking[1]] -= amount
    return left


def do_houses_have(question, moves, served):
    has = list(question[0])
    for moment in range(len(question[1]) + 1):
        # Served too much and moved too much show in one look: neither leaves a house below 0.
        left = behind_takings(question[2], served, has, moment)
        has = behind_round(left, [move for move in moves if move[0] == moment])
        if has is None:
            return False
    return True


def is_plan(question, plan):
    need_question(question)
    if not are_served(question[2], plan[1]) or not do_roads_bear(question[1], plan[0]):
        return False
    return do_houses_have(question, plan[0], plan[1])


def is_cut(question, cut):
    n = len(question[0])
    rounds = len(question[1])
    if not all([is_place(n, rounds, house, moment) for house, moment in cut]) or not is_rising(cut):
        return False
    # What waits at a place is at the house's next one: no waiting leads out of a cut.
    return all([(house, moment + 1) in cut for house, moment in cut if moment < rounds])


def weight_of_round(roads, cut, number):
    leading_out = [road for road in roads if (road[0], number) in cut and (road[1], number + 1) not in cut]
    return sum([road[2] for road in leading_out])


def weight(question, cut):
    need_question(question)
    if not is_cut(question, cut):
        raise NoPlan("this is no cut")
    starts = sum([start for house, start in enumerate(question[0]) if (house, 0) not in cut])
    by_roads = sum([weight_of_round(roads, cut, number) for number, roads in enumerate(question[1])])
    taken = sum([taking[2] for taking in question[2] if (taking[1], taking[0]) in cut])
    return starts + by_roads + taken

"""Questions of plans, and point 20 and 21 by their words, for several tests."""

import itertools

MILLION = 10 ** 6


def is_plan_by_the_words(question, plan):
    start, roads, takings = question
    moves, served = plan
    if len(served) != len(takings) or any(not 0 <= part <= taking[2] for part, taking in zip(served, takings)):
        return False
    mosts = {(number, i, j): most for number, ways in enumerate(roads) for i, j, most in ways}
    for number, i, j, k in moves:
        if k < 1 or (number, i, j) not in mosts:
            return False
    for way, most in mosts.items():
        if sum(move[3] for move in moves if move[:3] == way) > most:
            return False
    has = {(house, 0): amount for house, amount in enumerate(start)}
    for moment in range(len(roads) + 1):
        for house in range(len(start)):
            gone = sum(part for part, taking in zip(served, takings) if taking[:2] == (moment, house))
            gone += sum(move[3] for move in moves if move[:2] == (moment, house))
            if gone > has[house, moment]:
                return False
            has[house, moment + 1] = has[house, moment] - gone
        for number, i, j, k in moves:
            if number == moment:
                has[j, moment + 1] += k
    return True


def all_cuts(question):
    """A cut holds of each house the places from some moment on, or none."""
    rounds = len(question[1])
    for firsts in itertools.product(range(rounds + 2), repeat=len(question[0])):
        yield [(house, moment) for house, first in enumerate(firsts) for moment in range(first, rounds + 1)]


def weight_by_the_words(question, cut):
    start, roads, takings = question
    total = sum(amount for house, amount in enumerate(start) if (house, 0) not in cut)
    for number, ways in enumerate(roads):
        for i, j, most in ways:
            if (i, number) in cut and (j, number + 1) not in cut:
                total += most
    return total + sum(k for moment, house, k in takings if (house, moment) in cut)


def chance_question(source, most_houses=3, most_rounds=2, most=3):
    n = source.randint(1, most_houses)
    rounds = source.randint(0, most_rounds)
    pairs = list(itertools.permutations(range(n), 2))
    roads = []
    for _ in range(rounds):
        chosen = sorted(source.sample(pairs, source.randint(0, min(3, len(pairs)))))
        roads.append(tuple((i, j, source.randint(1, most)) for i, j in chosen))
    takings = tuple(
        (source.randint(0, rounds), source.randrange(n), source.randint(1, most)) for _ in range(source.randint(0, 3))
    )
    return (tuple(source.randint(0, most) for _ in range(n)), tuple(roads), takings)


def all_plans(question):
    """Every plan that holds, with at most one move by each road of each round."""
    start, roads, takings = question
    ways = [(number, i, j, most) for number, pairs in enumerate(roads) for i, j, most in pairs]
    for amounts in itertools.product(*[range(most + 1) for number, i, j, most in ways]):
        moves = [way[:3] + (k,) for way, k in zip(ways, amounts) if k]
        for served in itertools.product(*[range(k + 1) for moment, house, k in takings]):
            plan = (moves, list(served))
            if is_plan_by_the_words(question, plan):
                yield plan

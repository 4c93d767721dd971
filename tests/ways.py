"""Roads of chance, and points 18 and 19 by their words, for the tests of roads and of gathering."""

import itertools


def pairs_of(n):
    return list(itertools.permutations(range(n), 2))


def chance_roads(n, rounds, source):
    pairs = pairs_of(n)
    return [tuple(sorted(source.sample(pairs, source.randint(0, min(2, len(pairs)))))) for _ in range(rounds)]


def first_moment(roads, house, moment, to):
    """Point 18: place by place, waiting or going, till the other house is come to."""
    here = {house}
    while True:
        if to in here:
            return moment
        if moment == len(roads):
            return None
        here |= {j for i, j in roads[moment] if i in here}
        moment += 1


def asked_by_the_words(n, roads, house):
    return {one: first_moment(roads, house, 0, one) for one in range(n)}


def home_by_the_words(n, roads, house):
    asked = asked_by_the_words(n, roads, house)
    return {
        one: None if asked[one] is None else first_moment(roads, one, asked[one], house) for one in range(n)
    }


def gathers_by_the_words(rights, roads, house, amount, moment, moves):
    """Point 19, on moves of anybody."""
    if moment not in range(len(roads) + 1) or [move[0] for move in moves] != sorted(move[0] for move in moves):
        return False
    asked = asked_by_the_words(len(rights), roads, house)
    for number, i, j, k in moves:
        if number not in range(moment) or (i, j) not in roads[number] or k < 1:
            return False
        if asked[i] is None or number < asked[i]:
            return False
    has = dict(enumerate(rights))
    for number in range(moment):
        then = dict(has)
        for i in has:
            gone = sum(move[3] for move in moves if move[:2] == (number, i))
            come = sum(move[3] for move in moves if (move[0], move[2]) == (number, i))
            if gone > then[i]:
                return False
            has[i] = then[i] - gone + come
    return has[house] >= amount

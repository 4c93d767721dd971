"""Whether a manner comes to rest: from each stand in how many steps, or a run to where it never does."""

from lendwharf.errors import NoStand
from lendwharf.manners import EVENTS_WITHOUT_LETTER, need_manner, numbers_that_may, stand_behind
from lendwharf.tried import run_to, walked


def does_rest(manner, stand):
    rules = [manner[2][number] for number in numbers_that_may(manner, stand)]
    by_letters = [rule for rule in rules if rule[2] not in EVENTS_WITHOUT_LETTER]
    return all([stand_behind(rule, stand) == stand for rule in by_letters])


def stands_ahead(manner, stands):
    ahead = dict([(stand, []) for stand in stands])
    for stand in stands:
        for number in numbers_that_may(manner, stand):
            ahead[stand_behind(manner[2][number], stand)].append(stand)
    return ahead


def steps_to_rest(manner, stands):
    # Walked backwards from all that rest at once, each stand is met by its fewest steps first.
    ahead = stands_ahead(manner, stands)
    fresh = [stand for stand in stands if does_rest(manner, stand)]
    fewest = dict([(stand, 0) for stand in fresh])
    while len(fresh) > 0:
        further = []
        for stand in fresh:
            for earlier in ahead[stand]:
                if earlier not in fewest:
                    fewest[earlier] = fewest[stand] + 1
                    further.append(earlier)
        fresh = further
    return fewest


def rests(manner):
    need_manner(manner)
    walk = walked(manner)
    if walk[1] is not None:
        raise NoStand("the manner does not keep its stock")
    stands = list(walk[0])
    fewest = steps_to_rest(manner, stands)
    for stand in stands:
        if stand not in fewest:
            return ("restless", run_to(walk[0], stand))
    return ("rests", fewest)

"""Manners tried out: whether one keeps its stock, or a shortest run that breaks it."""

from lendwharf.errors import TooMany
from lendwharf.looks import is_rising, is_sized_tuple, is_whole, is_word
from lendwharf.manners import beginning, is_letter, may_be_done, need_manner, numbers_that_may, stand_behind

MOST_STANDS = 2000


def run_to(found, stand):
    run = []
    at = stand
    while found[at] is not None:
        run.append(found[at][0])
        at = found[at][1]
    return list(reversed(run))


def breaking_step(manner, stands):
    for stand in stands:
        for number in numbers_that_may(manner, stand):
            if stand[2] + manner[2][number][4] > manner[0]:
                return (number, stand)
    return None


def further_stands(manner, found, stands):
    further = []
    for stand in stands:
        for number in numbers_that_may(manner, stand):
            after = stand_behind(manner[2][number], stand)
            if after not in found:
                found[after] = (number, stand)
                further.append(after)
                if len(found) > MOST_STANDS:
                    raise TooMany("more stands than are walked through")
    return further


def walked(manner):
    # Kept with each stand is the step by which it was come to first, so by the fewest.
    found = {beginning(manner): None}
    fresh = [beginning(manner)]
    while len(fresh) > 0:
        # A break one step on goes ahead of the count of the stands that are one step on.
        step = breaking_step(manner, fresh)
        if step is not None:
            return (found, run_to(found, step[1]) + [step[0]])
        fresh = further_stands(manner, found, fresh)
    return (found, None)


def tried(manner):
    need_manner(manner)
    walk = walked(manner)
    if walk[1] is not None:
        return ("breaks", walk[1])
    return ("keeps", list(walk[0]))


def used_behind(manner, run):
    # A run may be very long: so one list and one dict stand for all its stands.
    states = list(manner[1])
    letters = {}
    used = 0
    for number in run:
        if not 0 <= number < len(manner[2]) or not may_be_done(manner[2][number], (states, letters)):
            return None
        rule = manner[2][number]
        states[rule[0]] = rule[3]
        letters.update([(letter, True) for letter in rule[5]])
        used += rule[4]
    return used


def is_break(manner, run):
    need_manner(manner)
    used = used_behind(manner, run)
    return used is not None and used > manner[0]


def is_stand_of(manner, thing):
    n = len(manner[1])
    if not is_sized_tuple(thing, 3, 3) or not is_sized_tuple(thing[0], n, n) or not isinstance(thing[1], tuple):
        return False
    if not all([is_word(part) for part in thing[0]]) or not all([is_letter(n, part) for part in thing[1]]):
        return False
    return is_rising(thing[1]) and is_whole(thing[2])


def is_closed_at(manner, among, stand):
    if stand[2] > manner[0]:
        return False
    return all([stand_behind(manner[2][number], stand) in among for number in numbers_that_may(manner, stand)])


def keeps(manner, stands):
    need_manner(manner)
    if len(stands) > MOST_STANDS or not all([is_stand_of(manner, stand) for stand in stands]):
        return False
    among = dict([(stand, True) for stand in stands])
    if len(among) < len(stands) or beginning(manner) not in among:
        return False
    return all([is_closed_at(manner, among, stand) for stand in stands])

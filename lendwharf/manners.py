"""Hand-written manners of houses: their rules, and the stands that these lead to."""

from lendwharf.errors import NoDeed, NoManner
from lendwharf.looks import is_between, is_sized_tuple, is_word

MOST_STOCK = 20
MOST_STARTS = 4
MOST_RULES = 60
MOST_USE_AT_ONCE = 9
MOST_LETTERS_OF_RULE = 8
EVENTS_WITHOUT_LETTER = ("go", "fall")


def is_letter(n, thing):
    if not is_sized_tuple(thing, 2, 2) or not is_between(thing[0], 0, n - 1):
        return False
    return is_word(thing[1]) and thing[1] not in EVENTS_WITHOUT_LETTER


def are_letters_of_rule(n, thing):
    return is_sized_tuple(thing, 0, MOST_LETTERS_OF_RULE) and all([is_letter(n, part) for part in thing])


def is_rule(n, thing):
    if not is_sized_tuple(thing, 6, 6) or not is_between(thing[0], 0, n - 1):
        return False
    if not all([is_word(part) for part in thing[1:4]]):
        return False
    return is_between(thing[4], 0, MOST_USE_AT_ONCE) and are_letters_of_rule(n, thing[5])


def are_rules(n, thing):
    if not is_sized_tuple(thing, 0, MOST_RULES) or not all([is_rule(n, part) for part in thing]):
        return False
    return len(set(thing)) == len(thing)


def are_starts(thing):
    return is_sized_tuple(thing, 1, MOST_STARTS) and all([is_word(part) for part in thing])


def is_manner(thing):
    if not is_sized_tuple(thing, 3, 3) or not is_between(thing[0], 0, MOST_STOCK):
        return False
    return are_starts(thing[1]) and are_rules(len(thing[1]), thing[2])


def need_manner(manner):
    if not is_manner(manner):
        raise NoManner("this is no manner")


def beginning(manner):
    return (manner[1], (), 0)


def may_be_done(rule, stand):
    if stand[0][rule[0]] != rule[1]:
        return False
    return rule[2] in EVENTS_WITHOUT_LETTER or (rule[0], rule[2]) in stand[1]


def numbers_that_may(manner, stand):
    return [number for number, rule in enumerate(manner[2]) if may_be_done(rule, stand)]


def stand_behind(rule, stand):
    states = stand[0][:rule[0]] + (rule[3],) + stand[0][rule[0] + 1:]
    # A letter that came lies there still: none is ever taken away.
    return (states, tuple(sorted(set(stand[1] + rule[5]))), stand[2] + rule[4])


def first_stand(manner):
    need_manner(manner)
    return beginning(manner)


def may_do(manner, stand):
    need_manner(manner)
    return numbers_that_may(manner, stand)


def behind(manner, stand, number):
    need_manner(manner)
    if number not in numbers_that_may(manner, stand):
        raise NoDeed("no rule that may be done there")
    return stand_behind(manner[2][number], stand)

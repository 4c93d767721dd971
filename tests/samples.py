"""Tables and oracles that several tests draw from."""

import itertools
import random

# Thirty-one figures, the most that a number handed in has.
HUGE = 10 ** 31 - 1

# House 0 made 10, lent 4 to 1 and 1 to 2, used 2; house 1 made 3, lent 2 to 0, used 5;
# house 2 lent 6 to 0, which it never had.
THREE = (
    (10, 4, 1, 2),
    (2, 3, 0, 5),
    (6, 0, 0, 0),
)
RIGHTS_OF_THREE = [11, 0, -5]

# Nothing of these is a table, so none comes about.
NO_TABLES = ((), ((0,),), ((1, -1),), ([1, 0],), [(1, 0)], ((True, 0),), None, "1 0")


def as_table(n, numbers):
    numbers = tuple(numbers)
    return tuple(numbers[i * (n + 1):(i + 1) * (n + 1)] for i in range(n))


def small_tables(n, most):
    places = n * (n + 1)
    for numbers in itertools.product(range(most + 1), repeat=places):
        yield as_table(n, numbers)


def chance_tables(n, how_many, most, seed):
    # A seed of its own: each run of the tests sees the same tables.
    source = random.Random(seed)
    for _ in range(how_many):
        yield as_table(n, [source.randint(0, most) for _ in range(n * (n + 1))])


def many_tables():
    yield from small_tables(1, 4)
    yield from small_tables(2, 2)
    for n in range(1, 9):
        yield from chance_tables(n, 30, 5, n)
        yield from chance_tables(n, 10, HUGE, 100 + n)


def rights_by_the_words(table, house):
    """Point 5, word by word: made and lent to it, less lent and used."""
    n = len(table)
    total = table[house][house] - table[house][n]
    for other in range(n):
        if other != house:
            total += table[other][house]
            total -= table[house][other]
    return total


def with_number(table, house, place, number):
    rows = [list(row) for row in table]
    rows[house][place] = number
    return tuple(tuple(row) for row in rows)


def places_of(n):
    return itertools.product(range(n), range(n + 1))


def tables_one_step_on(table):
    """Point 7 with k = 1: a making always, a lending or using where there is a right."""
    n = len(table)
    for house, place in places_of(n):
        if place == house or rights_by_the_words(table, house) >= 1:
            yield with_number(table, house, place, table[house][place] + 1)


def all_that_come_about(n, most):
    """Every table with no number above most to which some row of deeds leads."""
    start = as_table(n, [0] * (n * (n + 1)))
    found = {start}
    fresh = [start]
    while fresh:
        table = fresh.pop()
        for further in tables_one_step_on(table):
            if further not in found and max(map(max, further)) <= most:
                found.add(further)
                fresh.append(further)
    return found


def grown_table(n, how_many, most, source):
    """A table that comes about, by deeds of chance."""
    table = [[0] * (n + 1) for _ in range(n)]
    for _ in range(how_many):
        house = source.randrange(n)
        place = source.randrange(n + 1)
        had = rights_by_the_words(table, house)
        if place == house:
            table[house][place] += source.randint(1, most)
        elif had >= 1:
            table[house][place] += source.randint(1, min(had, most))
    return tuple(map(tuple, table))


def grown_tables(how_many, seed):
    source = random.Random(seed)
    for _ in range(how_many):
        n = source.randint(1, 8)
        yield grown_table(n, source.randint(0, 40), source.choice([1, 3, 10 ** 25]), source)


def lent_or_used_by_the_words(table, house):
    n = len(table)
    return any(table[house][place] for place in range(n + 1) if place != house)


def is_root_list_by_the_words(table, houses):
    """Point 8: each once, each that lent or used some, each with a root ahead of it."""
    n = len(table)
    for place, house in enumerate(houses):
        if not 0 <= house < n or house in houses[:place]:
            return False
        if table[house][house] == 0 and all(table[ahead][house] == 0 for ahead in houses[:place]):
            return False
    return all(house in houses for house in range(n) if lent_or_used_by_the_words(table, house))


def are_rootless_by_the_words(table, houses):
    """Point 8: rising; none made any; no other house lent them any; one lent or used some."""
    n = len(table)
    if not all(0 <= house < n for house in houses) or sorted(set(houses)) != list(houses):
        return False
    if any(table[house][house] for house in houses):
        return False
    if any(table[other][house] for other in range(n) for house in houses if other not in houses):
        return False
    return any(lent_or_used_by_the_words(table, house) for house in houses)


def subsets_of(n):
    for size in range(n + 1):
        for houses in itertools.combinations(range(n), size):
            yield list(houses)


def chance_deed(n, letters, most, source):
    kind = source.choice(("make", "lend", "lend", "use", "keep", "keep", "fall", "send", "come", "come"))
    house = source.randrange(n)
    if kind == "lend" and n > 1:
        to = source.choice([other for other in range(n) if other != house])
        return ("lend", house, to, source.randint(1, most))
    if kind == "come" and letters:
        return ("come", source.randrange(letters), house)
    if kind in ("make", "use"):
        return (kind, house, source.randint(1, most))
    return (kind if kind in ("keep", "fall") else "send", house)


def chance_run(n, how_many, most, source):
    deeds = []
    for _ in range(how_many):
        letters = sum(deed[0] == "send" for deed in deeds)
        deeds.append(chance_deed(n, letters, most, source))
    return deeds


class Touchy:
    """Fails whenever it is looked into: a thing of a wrong kind must not be."""

    def fail(self, *rest):
        raise RuntimeError("looked into")

    __eq__ = __lt__ = __le__ = __gt__ = __ge__ = fail
    __len__ = __iter__ = __getitem__ = __bool__ = __hash__ = __index__ = fail


def endless_list():
    things = []
    things.append(things)
    return things


def deep_tuple():
    thing = ()
    for _ in range(5000):
        thing = (thing,)
    return thing


def other_things():
    """Things of all kinds, none of them a tuple or list of what any point tells."""
    loop = endless_list()
    return [
        None, True, False, 0, 1, -1, HUGE, "", "0", b"", {}, {0: 1}, set(), frozenset(), range(2), object(),
        int, tuple, list, Touchy(), iter(()), loop, (loop,), [loop], deep_tuple(), [deep_tuple()],
        (None,), [None], [0], (0,), ["01"], ("01",), [Touchy()], (Touchy(),), [{}], ({},), [set()],
        (Touchy(), Touchy(), Touchy()), (loop, loop, loop), (None, None, None), (0, 0, 0), "abc", [[[]]],
    ]

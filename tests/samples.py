"""Tables and oracles that several tests draw from."""

import itertools
import random

# Thirty-one figures, the most that a number handed in has.
HUGE = 10 ** 31 - 1

# House 0 made 10, lent 4 to 1 and 1 to 2, used 2; house 1 made 3, lent 2 to 0, used 5;
# house 2 lent 6 to 0, which it never had.
THREE = (
    (10, 4, 1, 2),
    (2, 3, 0, 5),
    (6, 0, 0, 0),
)
RIGHTS_OF_THREE = [11, 0, -5]


def as_table(n, numbers):
    numbers = tuple(numbers)
    return tuple(numbers[i * (n + 1):(i + 1) * (n + 1)] for i in range(n))


def small_tables(n, most):
    places = n * (n + 1)
    for numbers in itertools.product(range(most + 1), repeat=places):
        yield as_table(n, numbers)


def chance_tables(n, how_many, most, seed):
    # A seed of its own: each run of the tests sees the same tables.
    source = random.Random(seed)
    for _ in range(how_many):
        yield as_table(n, [source.randint(0, most) for _ in range(n * (n + 1))])


def many_tables():
    yield from small_tables(1, 4)
    yield from small_tables(2, 2)
    for n in range(1, 9):
        yield from chance_tables(n, 30, 5, n)
        yield from chance_tables(n, 10, HUGE, 100 + n)


def rights_by_the_words(table, house):
    """Point 5, word by word: made and lent to it, less lent and used."""
    n = len(table)
    total = table[house][house] - table[house][n]
    for other in range(n):
        if other != house:
            total += table[other][house]
            total -= table[house][other]
    return total


def with_number(table, house, place, number):
    rows = [list(row) for row in table]
    rows[house][place] = number
    return tuple(tuple(row) for row in rows)

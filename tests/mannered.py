"""Manners of chance and by hand, and points 26 to 28 by their words, for several tests."""



def may_do_by_the_words(manner, stand):
    states, letters, used = stand
    numbers = []
    for number, (house, state, event, after, use, sent) in enumerate(manner[2]):
        if states[house] == state and (event == "go" or event == "fall" or (house, event) in letters):
            numbers.append(number)
    return numbers


def behind_by_the_words(manner, stand, number):
    states, letters, used = stand
    house, state, event, after, use, sent = manner[2][number]
    changed = list(states)
    changed[house] = after
    return (tuple(changed), tuple(sorted(set(letters) | set(sent))), used + use)


def chance_manner(source):
    n = source.randint(1, 4)
    words = ("a", "b", "go", "fall")
    rules = []
    for _ in range(source.randint(0, 10)):
        letters = tuple((source.randrange(n), source.choice("xyz")) for _ in range(source.randint(0, 3)))
        event = source.choice(("go", "fall", "x", "y", "z"))
        use = source.choice((0, 0, 1))
        rule = (source.randrange(n), source.choice(words), event, source.choice(words), use, letters)
        if rule not in rules:
            rules.append(rule)
    return (source.randint(0, 20), tuple(source.choice(words) for _ in range(n)), tuple(rules))


def first_by_the_words(manner):
    return (manner[1], (), 0)


def next_stands(manner, stand):
    return [behind_by_the_words(manner, stand, number) for number in may_do_by_the_words(manner, stand)]


def does_break(manner, stand):
    return stand[2] > manner[0]


def levels_by_the_words(manner, most):
    """The stands first come to by 0, 1, .. steps, up to a break, or till there are more than most of them."""
    seen = {first_by_the_words(manner)}
    levels = [list(seen)]
    while levels[-1] and len(seen) <= most and not any(does_break(manner, stand) for stand in levels[-1]):
        fresh = {after for stand in levels[-1] for after in next_stands(manner, stand)} - seen
        seen |= fresh
        levels.append(sorted(fresh))
    return levels


def breaks_at(manner, most):
    """Fewest steps to a break, or None; and how many stands are come to by fewer, or at all."""
    levels = levels_by_the_words(manner, most)
    if any(does_break(manner, stand) for stand in levels[-1]):
        return (len(levels) - 1, sum(map(len, levels[:-1])))
    return (None, sum(map(len, levels)))


def fewest_by_runs(manner, most):
    """The length of the shortest run that breaks, of all runs of at most so many steps; else None."""
    stands = [first_by_the_words(manner)]
    for steps in range(most + 1):
        if any(does_break(manner, stand) for stand in stands):
            return steps
        stands = [after for stand in stands for after in next_stands(manner, stand)]
    return None


def is_break_by_the_words(manner, run):
    stand = first_by_the_words(manner)
    for number in run:
        if number not in may_do_by_the_words(manner, stand):
            return False
        stand = behind_by_the_words(manner, stand, number)
    return does_break(manner, stand)


def keeps_by_the_words(manner, stands):
    if len(stands) > 2000 or len(set(stands)) != len(stands) or first_by_the_words(manner) not in stands:
        return False
    among = set(stands)
    return all(not does_break(manner, stand) and among.issuperset(next_stands(manner, stand)) for stand in stands)


def fans(numbers, with_break, stock=0):
    """Houses 0, 1, 2 .. go once from "s" to one of so many states each, in any order.

    To its state "key", though, house 1 goes only by a letter that house 0 sends from its own, and with_break
    house 2 uses too much in its own "key", by a letter that house 1 sends from its: a break of four steps.
    """
    rules = []
    for house, number in enumerate(numbers):
        for at in range(number):
            rules.append((house, "s", "go", "key" if at == 0 else "o" + chr(97 + at // 26) + chr(97 + at % 26), 0, ()))
    rules[0] = (0, "s", "go", "key", 0, ((1, "one"),))
    rules[numbers[0]] = (1, "s", "one", "key", 0, ((2, "two"),))
    if with_break:
        rules.append((2, "key", "two", "key", stock + 1, ()))
    return (stock, ("s",) * len(numbers), tuple(rules))


def cycles(numbers, stock=0):
    """Each house goes round through so many states: as many stands as their product."""
    rules = []
    for house, number in enumerate(numbers):
        for at in range(number):
            to = (at + 1) % number
            rules.append((house, "s" + chr(97 + at), "go", "s" + chr(97 + to), 0, ()))
    return (stock, ("sa",) * len(numbers), tuple(rules))

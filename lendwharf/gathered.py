"""What a house gathers over roads, and by which moment."""

from lendwharf.roads import arrivals, asked_moments, behind_round, home_moments, need_roads


def is_by(moment, last):
    return moment is not None and moment <= last


def houses_home_by(homes, moment):
    return [house for house in homes if is_by(homes[house], moment)]


def way(roads, house, moment, to):
    found = arrivals(roads, house, moment)
    # Each arrival names the house ahead of it alone: so the way is walked back from its end.
    taken = []
    at = to
    while found[at][1] is not None:
        taken.append((found[at][0] - 1, found[at][1], at))
        at = found[at][1]
    return taken


def moves_home(rights, roads, house, moment):
    asks = asked_moments(len(rights), roads, house)
    homes = home_moments(len(rights), roads, house)
    moves = []
    for one in houses_home_by(homes, moment):
        if rights[one] > 0:
            moves.extend([road + (rights[one],) for road in way(roads, one, asks[one], house)])
    return sorted(moves)


def gathered(rights, roads, house, amount):
    need_roads(len(rights), roads, house)
    homes = home_moments(len(rights), roads, house)
    for moment in range(len(roads) + 1):
        if sum([rights[one] for one in houses_home_by(homes, moment)]) >= amount:
            return ("gathered", moment, moves_home(rights, roads, house, moment))
    return ("short", asked_moments(len(rights), roads, house), homes)


def may_be_moved(roads, asks, moment, move):
    number = move[0]
    if not 0 <= number < moment or move[1:3] not in roads[number]:
        return False
    return move[3] >= 1 and is_by(asks[move[1]], number)


def has_at(rights, moves, moment):
    has = list(rights)
    for number in range(moment):
        has = behind_round(has, [move for move in moves if move[0] == number])
        if has is None:
            return None
    return has


def gathers(rights, roads, house, amount, moment, moves):
    need_roads(len(rights), roads, house)
    if not 0 <= moment <= len(roads):
        return False
    if any([later[0] < earlier[0] for earlier, later in zip(moves, moves[1:])]):
        return False
    asks = asked_moments(len(rights), roads, house)
    if not all([may_be_moved(roads, asks, moment, move) for move in moves]):
        return False
    has = has_at(rights, moves, moment)
    return has is not None and has[house] >= amount


def are_moments(n, roads, house, asked, home):
    need_roads(n, roads, house)
    return asked == asked_moments(n, roads, house) and home == home_moments(n, roads, house)

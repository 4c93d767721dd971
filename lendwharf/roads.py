"""Roads: in which round one comes from which house to which, and when."""

from lendwharf.errors import NoHouse, NoRoad
from lendwharf.looks import is_between, is_rising
from lendwharf.tables import MOST_HOUSES

MOST_ROUNDS = 40


def is_road(n, thing):
    if not isinstance(thing, tuple) or len(thing) != 2:
        return False
    return all([is_between(house, 0, n - 1) for house in thing]) and thing[0] != thing[1]


def are_roads_of_round(n, thing):
    if not isinstance(thing, tuple):
        return False
    return all([is_road(n, road) for road in thing]) and is_rising(thing)


def are_roads(n, thing):
    if not is_between(n, 1, MOST_HOUSES):
        return False
    if not isinstance(thing, list) or len(thing) > MOST_ROUNDS:
        return False
    return all([are_roads_of_round(n, part) for part in thing])


def need_roads(n, roads, house):
    if not are_roads(n, roads):
        raise NoRoad("these are no roads")
    if not is_between(house, 0, n - 1):
        raise NoHouse("no house of these roads")


def arrivals(roads, house, moment):
    # Kept with the first moment at a house is the one ahead of it, for whoever asks for the way.
    found = {house: (moment, None)}
    for number in range(moment, len(roads)):
        for i, j in roads[number]:
            # Who arrives by this very round goes on in the next one at the earliest.
            if j not in found and i in found and found[i][0] <= number:
                found[j] = (number + 1, i)
    return found


def moment_of(found, house):
    return found[house][0] if house in found else None


def asked_moments(n, roads, house):
    found = arrivals(roads, house, 0)
    return dict([(one, moment_of(found, one)) for one in range(n)])


def home_moments(n, roads, house):
    moments = {}
    for one, moment in asked_moments(n, roads, house).items():
        moments[one] = None if moment is None else moment_of(arrivals(roads, one, moment), house)
    return moments


def asked(n, roads, house):
    need_roads(n, roads, house)
    return asked_moments(n, roads, house)


def home(n, roads, house):
    need_roads(n, roads, house)
    return home_moments(n, roads, house)


def behind_round(has, moves):
    left = list(has)
    for number, i, j, k in moves:
        left[i] -= k
    # What comes in this round is no help in it: so nothing comes in ahead of this look.
    if min(left) < 0:
        return None
    for number, i, j, k in moves:
        left[j] += k
    return left

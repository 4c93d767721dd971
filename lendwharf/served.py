"""Takings served: the most of all, with a cut that shows it, and first come, first served."""

from lendwharf.plans import need_question

SPRING = "spring"


def ways_of(question):
    # All rights come from one spring; then what is at a place waits or goes by a road.
    starts = question[0]
    ways = [(SPRING, (house, 0), start) for house, start in enumerate(starts)]
    for number, roads in enumerate(question[1]):
        ways.extend([((house, number), (house, number + 1), sum(starts)) for house in range(len(starts))])
        ways.extend([((i, number), (j, number + 1), most) for i, j, most in roads])
    return ways


def ways_by_end(ways):
    numbers = {}
    for number, way in enumerate(ways):
        numbers.setdefault(way[0], []).append(number)
        numbers.setdefault(way[1], []).append(number)
    return numbers


def other_end(way, load, end):
    # A way that bears some may be walked back: that much is then called back and goes elsewhere.
    if way[0] == end and load < way[2]:
        return way[1]
    if way[1] == end and load > 0:
        return way[0]
    return None


def reached(ways, loads):
    by_end = ways_by_end(ways)
    found = {SPRING: None}
    fresh = [SPRING]
    while len(fresh) > 0:
        further = []
        for end in fresh:
            for number in by_end[end]:
                other = other_end(ways[number], loads[number], end)
                if other is not None and other not in found:
                    found[other] = (number, end)
                    further.append(other)
        fresh = further
    return found


def steps_back(ways, found, place):
    steps = []
    at = place
    while found[at] is not None:
        step = found[at]
        steps.append((step[0], ways[step[0]][1] == at))
        at = step[1]
    return steps


def room_by(ways, loads, steps):
    return min([ways[number][2] - loads[number] if onward else loads[number] for number, onward in steps])


def serve(ways, loads, taking):
    place = (taking[1], taking[0])
    served = 0
    found = reached(ways, loads)
    while served < taking[2] and place in found:
        steps = steps_back(ways, found, place)
        amount = min(room_by(ways, loads, steps), taking[2] - served)
        for number, onward in steps:
            loads[number] += amount if onward else -amount
        served += amount
        found = reached(ways, loads)
    return served


def moves_by(ways, loads):
    moves = []
    for way, load in zip(ways, loads):
        if way[0] != SPRING and way[0][0] != way[1][0] and load > 0:
            moves.append((way[0][1], way[0][0], way[1][0], load))
    return moves


def all_served(question):
    ways = ways_of(question)
    loads = [0 for way in ways]
    # What was served stays served: whatever is called back for a later taking comes to no earlier
    # one's loss, as no way leads back out of a taking.
    served = [serve(ways, loads, taking) for taking in question[2]]
    cut = sorted([end for end in reached(ways, loads) if end != SPRING])
    return (served, moves_by(ways, loads), cut)


def best(question):
    need_question(question)
    told = all_served(question)
    return (sum(told[0]), (told[1], told[0]), told[2])


def first_served(question):
    need_question(question)
    told = all_served(question)
    return (told[0], (told[1], list(told[0])))

"""Runs: rows of deeds, falls and letters of several houses."""

from lendwharf.comes import need_comes_about
from lendwharf.deeds import is_deed, is_text_and_numbers, need_houses_of_deed
from lendwharf.errors import NoDeed, NoHouse, NoLetter, Short
from lendwharf.houses import House
from lendwharf.tables import is_house

PARTS_OF_OTHER_DEED = {"keep": 2, "fall": 2, "send": 2, "come": 3}


def is_other_deed(thing):
    return is_text_and_numbers(thing) and len(thing) == PARTS_OF_OTHER_DEED.get(thing[0])


def need_deed_of_run(table, letters, deed):
    if is_deed(deed):
        need_houses_of_deed(table, deed)
    elif not is_other_deed(deed):
        raise NoDeed("a deed of no kind that runs have")
    elif not is_house(table, deed[-1]):
        raise NoHouse("no house of this run")
    elif deed[0] == "come" and not 0 <= deed[1] < len(letters):
        raise NoLetter("no letter of this number is put by so far")


def do_own_deed(houses, deed):
    house = houses[deed[1]]
    if deed[0] == "make":
        house.make(deed[2])
    elif deed[0] == "lend":
        house.lend(deed[2], deed[3])
    else:
        house.use(deed[2])


def do_other_deed(houses, letters, deed):
    house = houses[deed[-1]]
    if deed[0] == "keep":
        house.keep()
    elif deed[0] == "fall":
        house.fall()
    elif deed[0] == "send":
        letters.append(house.letter())
    else:
        house.come(letters[deed[1]])


def answer_to(houses, letters, deed):
    if is_other_deed(deed):
        do_other_deed(houses, letters, deed)
        return "done"
    try:
        do_own_deed(houses, deed)
    except Short as refusal:
        return refusal.had
    return "done"


def played(table, deeds):
    need_comes_about(table)
    houses = [House(number, table) for number in range(len(table))]
    letters = []
    answers = []
    for deed in deeds:
        need_deed_of_run(table, letters, deed)
        answers.append(answer_to(houses, letters, deed))
    return (answers, [house.table() for house in houses])

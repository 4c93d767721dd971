"""The desk: rows of words told to wharves, each answered with a text."""

from lendwharf.comes import steps
from lendwharf.errors import NoDeed, NoHouse, NoName, NoRow, NoTable
from lendwharf.houses import House
from lendwharf.looks import is_word
from lendwharf.runs import answer_to, need_deed_of_run
from lendwharf.tables import MOST_HOUSES, bare, joined, stock
from lendwharf.tabletexts import figures_of, is_figures, number_of, show_table
from lendwharf.views import may_use

MOST_FIGURES = 30
WORDS_OF_ROW = {
    "wharf": 3, "make": 4, "use": 4, "lend": 5, "keep": 3, "fall": 3, "send": 3, "come": 4,
    "rights": 3, "table": 3, "world": 4, "stock": 2, "steps": 2,
}
DEEDS_TOLD_OK = ("keep", "fall", "come")


class Wharf:
    def __init__(self, n):
        self.houses = [House(number, bare(n)) for number in range(n)]
        self.letters = []


def is_number(word):
    return is_figures(word) and len(word) <= MOST_FIGURES


def are_words_of_row(words):
    if len(words) != WORDS_OF_ROW.get(words[0]):
        return False
    return is_word(words[1]) and all([is_number(word) for word in words[2:]])


def new_wharf(n):
    if not 1 <= n <= MOST_HOUSES:
        raise NoTable("a wharf has from 1 to 8 houses")
    return Wharf(n)


def joined_of_all(wharf):
    together = wharf.houses[0].table()
    for house in wharf.houses:
        together = joined(together, house.table())
    return together


def answer_to_deed(wharf, deed):
    need_deed_of_run(wharf.houses[0].table(), wharf.letters, deed)
    answer = answer_to(wharf.houses, wharf.letters, deed)
    if deed[0] == "send":
        return figures_of(len(wharf.letters) - 1)
    if deed[0] in DEEDS_TOLD_OK:
        return "ok"
    return answer if answer == "done" else "short " + figures_of(answer)


def answer_of_world(house, number, k):
    if k < 1:
        raise NoDeed("one right or more is used")
    told = may_use(house.table(), (number,), k)
    return told[0] + " " + (figures_of(told[1]) if told[0] == "may" else show_table(told[1]))


def answer_of_house(wharf, kind, numbers):
    if numbers[0] >= len(wharf.houses):
        raise NoHouse("no house of this wharf")
    house = wharf.houses[numbers[0]]
    if kind == "rights":
        return figures_of(house.rights())
    if kind == "table":
        return show_table(house.table())
    return answer_of_world(house, numbers[0], numbers[1])


def answer_of_wharf(wharf, kind, numbers):
    if kind == "stock":
        return figures_of(stock(joined_of_all(wharf)))
    if kind == "steps":
        return figures_of(len(steps(joined_of_all(wharf))))
    if kind in ("rights", "table", "world"):
        return answer_of_house(wharf, kind, numbers)
    return answer_to_deed(wharf, tuple([kind] + numbers))


class Desk:
    def __init__(self):
        self.wharves = {}

    def say(self, row):
        words = row.split(" ")
        if not are_words_of_row(words):
            raise NoRow("a row of no kind that the desk knows")
        name = words[1]
        numbers = [number_of(word) for word in words[2:]]
        if words[0] == "wharf":
            self.wharves[name] = new_wharf(numbers[0])
            return "ok"
        if name not in self.wharves:
            raise NoName("no wharf stands under this name")
        return answer_of_wharf(self.wharves[name], words[0], numbers)

"""Tables written as texts, and read back."""

from lendwharf.errors import NoText
from lendwharf.tables import is_table


def is_figures(word):
    if len(word) == 0 or not all(["0" <= sign <= "9" for sign in word]):
        return False
    return word == "0" or word[0] != "0"


def number_of(figures):
    # Python refuses to read or write very long numbers at once: so both go piece by piece.
    number = 0
    for figure in figures:
        number = number * 10 + ord(figure) - ord("0")
    return number


def figures_of(number):
    pieces = []
    rest = number
    while rest >= 10 ** 18:
        pieces.append(str(rest % 10 ** 18).zfill(18))
        rest = rest // 10 ** 18
    pieces.append(str(rest))
    return "".join(reversed(pieces))


def show_row(row):
    return " ".join([figures_of(number) for number in row])


def show_table(table):
    return " / ".join([show_row(row) for row in table])


def read_row(text):
    words = text.split(" ")
    if not all([is_figures(word) for word in words]):
        raise NoText("a row holds numbers alone, with a blank between")
    return tuple([number_of(word) for word in words])


def read_table(text):
    table = tuple([read_row(row) for row in text.split(" / ")])
    if not is_table(table):
        raise NoText("these rows are no table")
    return table

"""A house: the table it stands with, and the one it kept."""

from lendwharf.comes import need_comes_about
from lendwharf.deeds import done
from lendwharf.errors import NoHouse, NoLetter
from lendwharf.tables import is_house, is_row_within, joined, need_as_many_houses, rights


class House:
    def __init__(self, number, table):
        need_comes_about(table)
        if not is_house(table, number):
            raise NoHouse("no house of this table")
        self.number = number
        self.now = table
        self.kept = table

    def make(self, k):
        self.now = done(self.now, ("make", self.number, k))

    def lend(self, to, k):
        self.now = done(self.now, ("lend", self.number, to, k))

    def use(self, k):
        self.now = done(self.now, ("use", self.number, k))

    def keep(self):
        self.kept = self.now

    def fall(self):
        self.now = self.kept

    def letter(self):
        return self.kept

    def come(self, table):
        need_as_many_houses(self.now, table)
        # Nobody knows more of a house's deeds than the house: such a table is no letter to it.
        if not is_row_within(table[self.number], self.now[self.number]):
            raise NoLetter("it tells more of this house than the house did")
        self.now = joined(self.now, table)

    def table(self):
        return self.now

    def rights(self):
        return rights(self.now, self.number)

    def used(self):
        return (self.kept[self.number][-1], self.now[self.number][-1])

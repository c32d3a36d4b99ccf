"""Rows of cells that no text has made."""

import random

P = (1, 1)
PLAIN = ("add", "take", "times", "over", "rest", "less", "same")


class HandMaker:
    """Rows by [12], made by chance: all cells are laid at first, a row begins behind each label."""

    def __init__(self, number):
        self.chance = random.Random(number)
        self.parts = self.chance.randint(0, 2)
        self.labels = self.chance.randint(1, 4)

    def cell(self):
        return self.chance.randint(0, 5)

    def place(self):
        return self.chance.randint(1, 12), self.chance.randint(1, 9)

    def make(self):
        rows = [self.lays(cell) for cell in range(self.parts, 6)]
        for label in range(self.labels):
            rows += self.some()
            rows += [("label", label, self.place()), ("begin", self.place())]
        rows += self.some() + [self.chance.choice((("give", self.cell(), P), ("nothing", P)))]
        names = [
            ("n" + "abcdef"[cell], "num", cell, self.chance.randint(1, 6), self.chance.randint(4, 12))
            for cell in range(6) if self.chance.random() < 0.3
        ]
        return ("f", ("num",) * self.parts, "num", True, tuple(rows), tuple(names))

    def lays(self, cell):
        if self.chance.random() < 0.5:
            return ("fetch", cell, "a", "k", self.place())
        return ("put", cell, self.chance.randint(0, 2), self.place())

    def some(self):
        return [self.row() for _ in range(self.chance.randint(0, 6))]

    def row(self):
        what = self.chance.choice(PLAIN + PLAIN + (
            "begin", "put", "put", "put", "copy", "fetch", "lay", "go", "unless", "unless", "call", "say", "give",
        ))
        label = self.chance.randrange(self.labels)
        return {
            "begin": ("begin", self.place()),
            "put": ("put", self.cell(), self.chance.randint(0, 2), self.place()),
            "copy": ("copy", self.cell(), self.cell(), self.place()),
            "fetch": ("fetch", self.cell(), "a", "k", self.place()),
            "lay": ("lay", "k", self.cell(), self.place()),
            "go": ("go", label, self.place()),
            "unless": ("unless", self.cell(), label, self.place()),
            "call": ("call", self.cell(), "a", "g", (self.cell(),), self.place()),
            "say": ("say", "num", self.cell(), self.place()),
            "give": ("give", self.cell(), self.place()),
        }.get(what, (what, self.cell(), self.cell(), self.cell(), self.place()))

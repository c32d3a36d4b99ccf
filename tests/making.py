"""Houses without faults, made by number: the same number makes the same house."""

import random
import re

LETTERS = "abcdefghijklmnopqrstuvwxyz"


def made_house(number):
    """A house of one to three files that has no fault."""
    house = HouseMaker(number).make()
    if any(len(re.findall(r"\w+|\S", row)) > 60 for text in house.values() for row in text.split("\n")):
        return made_house(number + 1000000)
    return house


def run_house(number):
    """A made house, with a def "main" in each file that calls all of the file's defs with out."""
    house = made_house(number)
    return {file: with_main(text, number) for file, text in house.items()}


def with_main(text, number):
    rows = []
    for name, parts, kind in re.findall(r"out def (\w+)\((.*)\) ?(num|yes|)", text):
        given = []
        for part in parts.split(", "):
            if part.endswith(" num"):
                given.append(str((number + len(given)) % 5))
            elif part.endswith(" yes"):
                given.append("yes" if number % 2 else "no")
        call = name + "(" + ", ".join(given) + ")"
        rows.append(("say " if kind else "do ") + call)
    kind = ("num", "yes", "")[number % 3]
    rows = ["out def main() " + kind] + rows + {"num": ["give 7"], "yes": ["give no"], "": []}[kind] + ["end"]
    if text.count("\n") + 1 + len(rows) > 60:
        return text
    return text + "\n" + "\n".join(rows)


def to_run(house):
    """(file, n) of all defs of made texts that can be run."""
    return [
        (file, name) for file in sorted(house) for name in re.findall(r"out def (\w+)\(\)", house[file])
    ]


class HouseMaker:
    def __init__(self, number):
        self.chance = random.Random(number)
        self.count = 0
        self.shown = {}

    def name(self):
        """A name that no other thing has, and that is no own word."""
        self.count += 1
        return "n" + LETTERS[self.count // 26 // 26] + LETTERS[self.count // 26 % 26] + LETTERS[
            self.count % 26
        ]

    def make(self):
        files = ["c", "b", "a"][:self.chance.randint(1, 3)]
        house = {}
        for at, file in enumerate(files):
            uses = [used for used in files[:at] if self.chance.random() < 0.8]
            house[file] = FileMaker(self, file, uses).make()
        return house


class FileMaker:
    def __init__(self, maker, file, uses):
        self.maker = maker
        self.chance = maker.chance
        self.file = file
        self.uses = uses
        self.rows = []
        # (path, kind) of consts and keeps, (path, parts' kinds, kind) of defs.
        self.worths = []
        self.keeps = []
        self.defs = []
        for used in uses:
            self.worths += maker.shown[used][0]
            self.defs += maker.shown[used][1]

    def make(self):
        if self.uses:
            self.rows.append("use " + ", ".join(self.uses))
        shown = ([], [])
        self.maker.shown[self.file] = shown
        for what in ("const", "const", "keep", "keep"):
            self.tell_worth(what, shown)
        heads = [self.head(shown) for _ in range(self.chance.randint(1, 4))]
        for head in heads:
            self.tell_def(*head, 12 // len(heads))
        return "\n".join(self.rows)

    def kind(self):
        return self.chance.choice(("num", "num", "yes"))

    def tell_worth(self, what, shown):
        name, kind, out = self.maker.name(), self.kind(), self.chance.random() < 0.7
        worth = str(self.chance.randint(0, 5)) if kind == "num" else self.chance.choice(("yes", "no"))
        if kind == "num" and self.chance.random() < 0.5:
            worth = "-" + worth + " * 3 mod 4"
        self.rows.append(("out " if out else "") + what + " " + name + " = " + worth)
        self.worths.append((name, kind))
        if what == "keep":
            self.keeps.append((name, kind))
        if out:
            shown[0].append((self.file + "." + name, kind))

    def head(self, shown):
        name = self.maker.name()
        parts = [(self.maker.name(), self.kind()) for _ in range(self.chance.randint(0, 3))]
        kind = self.chance.choice(("num", "yes", ""))
        kinds = [one for _, one in parts]
        out = self.chance.random() < 0.7
        self.defs.append((name, kinds, kind))
        if out:
            shown[1].append((self.file + "." + name, kinds, kind))
        return name, parts, kind, out

    def tell_def(self, name, parts, kind, out, many):
        told = ", ".join(part + " " + of for part, of in parts)
        self.rows.append(("out " if out else "") + ("def " + name + "(" + told + ") " + kind).strip())
        self.rows += RowMaker(self, kind, parts, many).all_rows()
        self.rows.append("end")


class RowMaker:
    """The rows of a def."""

    def __init__(self, file, kind, parts, many):
        self.file = file
        self.chance = file.chance
        self.kind = kind
        self.seen = [list(parts)]
        # How many rows may still be made, so that the text isn't too long.
        self.left = many

    def all_rows(self):
        rows = self.block(0)
        if self.kind != "" and self.chance.random() < 0.85:
            rows.append("give " + self.worth(self.kind, 2))
        return rows

    def block(self, depth):
        rows = []
        self.seen.append([])
        for _ in range(self.chance.randint(0, 4 if depth else 6)):
            if self.left > 0:
                self.left -= 1
                rows += self.row(depth)
        self.seen.pop()
        return rows

    def names(self):
        return [one for block in self.seen for one in block]

    def row(self, depth):
        what = self.chance.choice(
            ("let", "let", "set", "set", "keep", "if", "if", "else", "while", "say", "say", "do", "give")
        )
        if what in ("if", "else", "while"):
            return self.deep_row(what, depth)
        if what == "let":
            kind = self.file.kind()
            name = self.file.maker.name()
            row = "let " + name + " = " + self.worth(kind, 3)
            self.seen[-1].append((name, kind))
            return [row]
        if what in ("set", "keep"):
            return self.set_row(self.names() if what == "set" else self.file.keeps)
        if what == "do" and self.file.defs and self.chance.random() < 0.5:
            return ["do " + self.call(self.chance.choice(self.file.defs), 2)]
        if what == "give" and self.chance.random() < 0.6:
            return ["give" if self.kind == "" else "give " + self.worth(self.kind, 3)]
        return ["say " + self.worth(self.file.kind(), 3)]

    def set_row(self, names):
        if not names:
            return []
        name, kind = self.chance.choice(names)
        return [name + " = " + self.worth(kind, 3)]

    def deep_row(self, what, depth):
        if depth == 4:
            return []
        if what == "while":
            return self.while_row(depth)
        rows = ["if " + self.worth("yes", 3)] + self.block(depth + 1)
        if what == "else":
            rows += ["else"] + self.block(depth + 1)
        return rows + ["end"]

    def while_row(self, depth):
        if self.chance.random() < 0.4:
            return ["while " + self.worth("yes", 3)] + self.block(depth + 1) + ["end"]
        # One that comes to its end, mostly.
        name = self.file.maker.name()
        rows = ["let " + name + " = 0", "while " + name + " < " + str(self.chance.randint(0, 3))]
        self.seen[-1].append((name, "num"))
        return rows + [name + " = " + name + " + 1"] + self.block(depth + 1) + ["end"]

    def call(self, one, depth):
        path, kinds, _ = one
        return path + "(" + ", ".join(self.worth(kind, depth - 1) for kind in kinds) + ")"

    def worth(self, kind, depth):
        if depth == 0 or self.chance.random() < 0.3:
            return self.single(kind)
        calls = [one for one in self.file.defs if one[2] == kind]
        if calls and self.chance.random() < 0.08:
            return self.call(self.chance.choice(calls), min(depth, 2))
        first, second = [self.worth("num", depth - 1) for _ in range(2)]
        if kind == "num":
            sign = self.chance.choice(("+", "-", "*", "+", "-", "*", "/", "mod", "neg"))
            if sign == "neg":
                return "-(" + first + ")"
            return "(" + first + " " + sign + " " + second + ")"
        sign = self.chance.choice(("<", "<=", "=", "<>", "not", "and", "or", "and", "or"))
        if sign in ("not", "and", "or"):
            first, second = [self.worth("yes", depth - 1) for _ in range(2)]
        if sign == "not":
            return "(not " + first + ")"
        return "(" + first + " " + sign + " " + second + ")"

    def single(self, kind):
        names = [one for one, of in self.names() + self.file.worths if of == kind]
        if names and self.chance.random() < 0.7:
            return self.chance.choice(names)
        if kind == "num":
            return str(self.chance.choice((0, 1, 2, 3, 7, 999999)))
        return self.chance.choice(("yes", "no"))

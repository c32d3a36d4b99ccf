"""A def's rows of cells done as [12] tells, and its machine's rows as [17] tells, with all that happens.

What happens is told by tuples whose last thing is the number of the row of cells. Calls are answered
by a World, so just one def is looked at.
"""

from doing import SIGNS, Stop, checked


class World:
    """Keeps, and defs that give what hangs on all that was asked of them so far; "none" gives nothing."""

    def __init__(self, keep):
        self.keeps = {("a", "k"): keep, ("a", "l"): 3, ("b", "k"): -keep}
        self.asked = keep

    def answer(self, name, given):
        if name == "none":
            return None
        self.asked = (self.asked * 5 + sum(given) + 3) % 7
        return self.asked - 2


class Doing:
    """What happens; laid is what each cell holds."""

    def __init__(self, one, given, world):
        self.one = one
        self.laid = dict(enumerate(given))
        self.world = world
        self.told = []
        watched = list(range(len(given))) + [cell for _, _, cell, _, _ in one[5]]
        self.watched = sorted(set(watched))

    def begin(self, number):
        self.told.append(("row", {cell: self.laid.get(cell) for cell in self.watched}, number))

    def signed(self, what, first, second, number):
        try:
            return checked(SIGNS[what], first, second, "a", number)
        except Stop as stop:
            self.told.append(("fault", stop.told[1], number))
            return None

    def fetch(self, file, name, number):
        worth = self.world.keeps[file, name]
        self.told.append(("fetch", file, name, worth, number))
        return worth

    def lay(self, name, worth, number):
        self.world.keeps["a", name] = worth
        self.told.append(("lay", name, worth, number))

    def call(self, file, name, given, number):
        self.told.append(("call", file, name, tuple(given), number))
        return self.world.answer(name, given)


def by_cells(one, given, world, most):
    """What happens by the first so many rows of cells, and whether that is all."""
    doing = Doing(one, given, world)
    rows, cells, told = one[4], doing.laid, doing.told
    labels = {row[1]: at for at, row in enumerate(rows) if row[0] == "label"}
    at = 0
    for _ in range(most):
        row, number = rows[at], at
        what = row[0]
        at += 1
        if what == "begin":
            doing.begin(number)
        elif what == "put":
            cells[row[1]] = row[2]
        elif what == "copy":
            cells[row[1]] = cells[row[2]]
        elif what == "fetch":
            cells[row[1]] = doing.fetch(row[2], row[3], number)
        elif what == "lay":
            doing.lay(row[1], cells[row[2]], number)
        elif what == "go":
            at = labels[row[1]]
        elif what == "unless":
            at = labels[row[2]] if cells[row[1]] == 0 else at
        elif what == "call":
            worth = doing.call(row[2], row[3], [cells[cell] for cell in row[4]], number)
            if row[1] is not None:
                cells[row[1]] = worth
        elif what == "say":
            told.append(("say", row[1], cells[row[2]], number))
        elif what == "give":
            told.append(("give", None if row[1] is None else cells[row[1]], number))
            return told, True
        elif what == "nothing":
            told.append(("fault", "nothing", number))
            return told, True
        elif what != "label":
            worth = doing.signed(what, cells[row[2]], cells[row[3]], number)
            if worth is None:
                return told, True
            cells[row[1]] = worth
    return told, False


FROM = {"jump": "go", "unless": "unless", "row": "begin"}


def by_pile(test, one, rows, given, world, most):
    """What happens by the first so many rows of a machine; what [17] tells of them is held on the way."""
    doing = Doing(one, given, world)
    cells, told, pile = doing.laid, doing.told, []
    at = 0
    for _ in range(most):
        row = rows[at]
        what, number = row[0], row[-1]
        if what not in ("push", "load", "store"):
            test.assertEqual(one[4][number][0], FROM.get(what, what))
        at += 1
        if what == "row":
            test.assertEqual(pile, [])
            doing.begin(number)
        elif what == "push":
            pile.append(row[1])
        elif what == "load":
            pile.append(cells[row[1]])
        elif what == "store":
            cells[row[1]] = pile.pop()
        elif what == "fetch":
            pile.append(doing.fetch(row[1], row[2], number))
        elif what == "lay":
            doing.lay(row[1], pile.pop(), number)
        elif what == "jump":
            at = row[1]
        elif what == "unless":
            at = row[1] if pile.pop() == 0 else at
        elif what == "call":
            handed = [pile.pop() for _ in range(row[3])][::-1]
            worth = doing.call(row[1], row[2], handed, number)
            pile += [] if worth is None else [worth]
        elif what == "say":
            told.append(("say", row[1], pile.pop(), number))
        elif what == "give":
            test.assertIn(row[1], (0, 1))
            told.append(("give", pile.pop() if row[1] else None, number))
            return told
        elif what == "nothing":
            told.append(("fault", "nothing", number))
            return told
        else:
            second, first = pile.pop(), pile.pop()
            worth = doing.signed(what, first, second, number)
            if worth is None:
                return told
            pile.append(worth)
    return told

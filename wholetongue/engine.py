"""A machine that does the codes of an image."""

from wholetongue.checking import is_between
from wholetongue.codes import CALL_SIZE, HAS, ROW, WORDS
from wholetongue.errors import BadCount, NoDef
from wholetongue.flow import SIGNED
from wholetongue.sums import done, trouble_of
from wholetongue.worths import told_worth

MOST_ROWS = 100000
MOST_CALLS = 32


class Caller:
    """A call that waits for another one. It's never changed, so marks may share it."""

    def __init__(self, machine):
        self.number = machine.number
        self.call = machine.call
        self.at = machine.at
        self.cells = list(machine.cells)
        self.pile = list(machine.pile)


class Machine:
    """Stands ahead of the code of a row of text, or behind the end.

    number is that of the def whose call is the innermost one, call that call's own number; at, cells
    and pile are its. ended tells how it ended, None while it hasn't.
    """

    def __init__(self, image, file, name, most):
        code, places, defs, keeps = image[:4]
        self.number = number_to_run(defs, file, name)
        if not is_between(most, 0, MOST_ROWS):
            raise BadCount("so many rows of text can't be")
        self.most = most
        self.code = list(code)
        self.places = {at: (of, place) for at, of, place in places}
        self.defs = list(defs)
        self.numbers = {one[2]: number for number, one in enumerate(defs)}
        self.kept = [keep[3] for keep in keeps]
        self.at = defs[self.number][2]
        self.cells = [0] * defs[self.number][7]
        self.pile = []
        self.callers = []
        self.call = 0
        self.calls = 0
        self.began = 0
        self.spoken = []
        self.ended = None
        self.go_on()

    def mark(self):
        """All that changes as it goes on, to stand there again."""
        return (
            self.number, self.at, list(self.cells), list(self.pile), list(self.callers), self.call,
            self.calls, self.began, len(self.spoken), list(self.kept), self.ended,
        )

    def stand_at(self, mark):
        """Stand again as at a mark, which is used up by that."""
        self.number, self.at, self.cells, self.pile, self.callers, self.call = mark[:6]
        self.calls, self.began, many_spoken, self.kept, self.ended = mark[6:]
        self.spoken = self.spoken[:many_spoken]

    def row_ahead(self):
        """(file, row) of the row of text ahead of which it stands, None behind the end."""
        if self.ended is not None:
            return None
        file, place = self.places[self.at]
        return file, place[0]

    def under_way(self):
        """(def's number, call's number, at, cells) of all calls under way, the innermost first."""
        if self.ended is not None:
            return []
        frames = [(self.number, self.call, self.at, self.cells)]
        for one in reversed(self.callers):
            frames.append((one.number, one.call, one.at, one.cells))
        return frames

    def do_row(self):
        """Do the row of text ahead of which it stands, up to the next one or to the end."""
        self.began += 1
        self.at += 1
        self.go_on()

    def go_on(self):
        while self.ended is None and self.code[self.at] != ROW:
            self.do_code()
        if self.ended is None and self.began == self.most:
            self.fault("tired")

    def fault(self, word):
        file, (row, column) = self.places[self.at]
        self.ended = ("fault", word, file, row, column)

    def do_code(self):
        number = self.code[self.at]
        word = WORDS[number]
        if word in SIGNED:
            self.do_signed(word)
        elif word == "call":
            self.begin_call()
        elif word == "give":
            self.give(self.code[self.at + 1])
        elif word == "nothing":
            self.fault(word)
        else:
            has = self.code[self.at + 1]
            self.at += 1 + HAS[number]
            self.do_plain(word, has)

    def do_plain(self, word, has):
        """A word that has one number, and is no fault."""
        if word == "load":
            self.pile.append(self.cells[has])
        elif word == "store":
            self.cells[has] = self.pile.pop()
        elif word == "push":
            self.pile.append(has)
        elif word == "jump":
            self.at = has
        elif word == "unless":
            if self.pile.pop() == 0:
                self.at = has
        elif word == "fetch":
            self.pile.append(self.kept[has])
        elif word == "lay":
            self.kept[has] = self.pile.pop()
        else:
            self.say(has)

    def say(self, kind):
        worth = self.pile.pop()
        if kind == 1:
            self.spoken.append(worth == 1)
        else:
            self.spoken.append(worth)

    def do_signed(self, word):
        second = self.pile.pop()
        first = self.pile.pop()
        why = trouble_of(word, first, second)
        if why != "":
            self.fault(why)
        else:
            self.pile.append(done(word, first, second))
            self.at += 1

    def begin_call(self):
        at, many, many_cells = self.code[self.at + 1:self.at + CALL_SIZE]
        if len(self.callers) + 1 == MOST_CALLS:
            self.fault("deep")
            return
        rest = len(self.pile) - many
        given = self.pile[rest:]
        self.pile = self.pile[:rest]
        self.callers.append(Caller(self))
        self.calls += 1
        self.call = self.calls
        self.number = self.numbers[at]
        self.at = at
        self.cells = given + [0] * (many_cells - many)
        self.pile = []

    def give(self, many):
        """End the innermost call; of 1 the top of its pile is given."""
        worth = None
        if many == 1:
            worth = self.pile.pop()
        if self.callers == []:
            self.end_by(worth)
            return
        one = self.callers.pop()
        self.number, self.call = one.number, one.call
        self.at = one.at + CALL_SIZE
        self.cells = list(one.cells)
        self.pile = list(one.pile)
        if worth is not None:
            self.pile.append(worth)

    def end_by(self, worth):
        if worth is not None:
            worth = told_worth(self.defs[self.number][5], worth)
        self.ended = ("end", worth)


def number_to_run(defs, file, name):
    """The number of the def with out and without parts that has this name."""
    for number, one in enumerate(defs):
        if one[0] == file and one[1] == name and one[6] and len(one[4]) == 0:
            return number
    raise NoDef("no such def can be run")

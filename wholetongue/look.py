"""Images, looked into where they stand."""

from wholetongue.asking import Asked, Sheet
from wholetongue.checking import is_between
from wholetongue.codes import rows_begun
from wholetongue.engine import Machine
from wholetongue.errors import BadDepth, Ended, Fault, NoRow
from wholetongue.kinds import check_kind
from wholetongue.run import ROWS
from wholetongue.tree import worth_tree
from wholetongue.worths import told_worth


class Looker:
    """Stands ahead of a row of text that begins, or behind the end; goes on and back.

    rows tells the def's number of each (file, row) that may begin, marks where it stood ahead of
    each step, held the stops with the E of those that have one.
    """

    def __init__(self, image, file, name, *, most=ROWS):
        self.machine = Machine(image, file, name, most)
        self.sheet = Sheet(image)
        self.keeps = list(image[3])
        self.rows = rows_by_place(image)
        self.marks = []
        self.held = {}

    def stop(self, file, row, *, when=""):
        """Put a stop ahead of a row, only while an E isn't told False there if one is handed in."""
        number = self.number_at(file, row)
        asked = None
        if when != "":
            asked = Asked(worth_tree(when), self.sheet.things_at(number, row))
            check_kind(asked, asked.worth, "yes")
        self.held[file, row] = asked

    def unstop(self, file, row):
        """Take a stop away; whether there was one."""
        self.number_at(file, row)
        if (file, row) not in self.held:
            return False
        del self.held[file, row]
        return True

    def stops(self):
        """(file, row) of all stops, rising."""
        return sorted(self.held)

    def number_at(self, file, row):
        """The number of the def of which a row may begin."""
        if (file, row) not in self.rows:
            raise NoRow("no row of text begins there")
        return self.rows[file, row]

    def is_at_stop(self):
        spot = self.where()
        if spot not in self.held:
            return False
        asked = self.held[spot]
        return asked is None or self.comes_to(asked, self.machine.cells) != ("yes", False)

    def step(self):
        """Do the row of text ahead of which it stands; where it stands then."""
        if self.machine.ended is not None:
            raise Ended("the run is behind its end")
        self.marks.append(self.machine.mark())
        self.machine.do_row()
        return self.where()

    def go(self):
        """Go on to the next stop, or to the end."""
        self.step()
        while self.machine.ended is None and not self.is_at_stop():
            self.step()
        return self.where()

    def over(self):
        """Go on to the next row of the innermost call, or of one around it."""
        return self.go_on_in([frame[1] for frame in self.machine.under_way()])

    def out(self):
        """Go on to the next row of a call around the innermost one."""
        return self.go_on_in([frame[1] for frame in self.machine.under_way()[1:]])

    def go_on_in(self, calls):
        """Go on to the next row of one of these calls, or to the end."""
        self.step()
        while self.machine.ended is None and self.machine.call not in calls:
            self.step()
        return self.where()

    def back(self):
        """Stand as ahead of the last step; whether there was one."""
        if self.marks == []:
            return False
        self.machine.stand_at(self.marks.pop())
        return True

    def back_go(self):
        """Go back to the next stop, or to the beginning."""
        while self.back() and not self.is_at_stop():
            pass
        return self.where()

    def where(self):
        """(file, row) of the row of text ahead of which it stands, None behind the end."""
        return self.machine.row_ahead()

    def said(self):
        """All that was said so far."""
        return list(self.machine.spoken)

    def outcome(self):
        """How it ended, None where it hasn't."""
        return self.machine.ended

    def frames(self):
        """(file, def, row) of all calls under way, the innermost first."""
        told = []
        for frame in self.machine.under_way():
            file, name = self.sheet.defs[frame[0]][:2]
            told.append((file, name, self.row_of(frame)))
        return told

    def seen(self, depth):
        """(name, kind, worth) of all names that stand at the row of a call."""
        frame = self.frame_at(depth)
        standing = self.sheet.standing(frame[0], self.row_of(frame))
        return [(name, kind, told_worth(kind, frame[3][cell])) for name, kind, cell in standing]

    def lasting(self):
        """(file, name, kind, worth) of all keeps."""
        return [
            (file, name, kind, told_worth(kind, worth))
            for (file, name, kind, _, _), worth in zip(self.keeps, self.machine.kept)
        ]

    def ask(self, text, depth):
        """(kind, worth) of what an E comes to in a call, or ("fault", word, column)."""
        worth = worth_tree(text)
        return self.asked_in(worth, self.frame_at(depth))

    def watch(self, text, *, at_depth=0):
        """Go on until an E comes to something else in a call, or can't be asked for any more."""
        worth = worth_tree(text)
        frame = self.frame_at(at_depth)
        first = self.asked_in(worth, frame)
        now = first
        while now == first:
            self.step()
            if self.machine.ended is not None:
                return ("end",)
            left = [one for one in self.machine.under_way() if one[1] == frame[1]]
            if left == []:
                return ("over",)
            try:
                now = self.asked_in(worth, left[0])
            except Fault:
                return ("gone",)
        return "changed", first, now

    def asked_in(self, worth, frame):
        """What an E comes to in a call that is under way."""
        things = self.sheet.things_at(frame[0], self.row_of(frame))
        return self.comes_to(Asked(worth, things), frame[3])

    def comes_to(self, asked, cells):
        return asked.comes_to(cells, self.machine.kept)

    def frame_at(self, depth):
        frames = self.machine.under_way()
        if not is_between(depth, 0, len(frames) - 1):
            raise BadDepth("no call is under way there")
        return frames[depth]

    def row_of(self, frame):
        """The row of text at which a call stands."""
        return self.machine.places[frame[2]][1][0]


def rows_by_place(image):
    """The number of its def, by (file, row) of each row of text that may begin."""
    rows = {}
    for at, file, row in rows_begun(image):
        for number, one in enumerate(image[2]):
            if one[2] <= at < one[3]:
                rows[file, row] = number
    return rows

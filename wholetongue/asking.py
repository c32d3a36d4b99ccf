"""What stands at a row of an image, and an E that is asked for there.

A thing is told by ("cell", cell, kind), ("keep", number, kind) or ("const", worth, kind).
"""

from wholetongue.consts import work_out
from wholetongue.errors import Fault
from wholetongue.kinds import check_worth, kind_in
from wholetongue.walking import named_in
from wholetongue.worths import told_worth


class Asked:
    """An E, with what its names are, looked at as a file is by kinds.py and consts.py."""

    def __init__(self, worth, things):
        self.file = ""
        self.worth = worth
        self.meant = {}
        self.kinds = {}
        self.worths = {}
        for one in named_in(worth):
            self.take(one, things)
        check_worth(self, worth)

    def take(self, one, things):
        """A name, which must be one of these things; a call is none."""
        what, place, file, name = one[:4]
        if what == "call" or (file, name) not in things:
            raise Fault("names", "", place, "unknown")
        thing = things[file, name]
        self.meant[place] = thing
        self.kinds[thing] = thing[2]

    def comes_to(self, cells, keeps):
        """(kind, worth), or the fault, by what these cells and keeps hold."""
        self.worths = {thing: worth_in(thing, cells, keeps) for thing in self.kinds}
        kind = kind_in(self, self.worth)
        try:
            return kind, told_worth(kind, work_out(self, self.worth))
        except Fault as fault:
            return "fault", fault.why, fault.place[1]


def worth_in(thing, cells, keeps):
    what, number, _ = thing
    if what == "cell":
        return cells[number]
    if what == "keep":
        return keeps[number]
    return number


class Sheet:
    """What an image tells of names."""

    def __init__(self, image):
        self.defs, keeps, consts, uses, names = [list(table) for table in image[2:]]
        self.names = names
        self.own = {file: {} for file, _ in uses}
        self.uses = {file: list(used) for file, used in uses}
        for number, (file, name, kind, _, out) in enumerate(keeps):
            self.own[file][name] = (("keep", number, kind), out)
        for file, name, kind, worth, out in consts:
            self.own[file][name] = (("const", worth, kind), out)

    def standing(self, number, row):
        """(n, kind, cell) of the names of a def that stand at a row."""
        home = self.defs[number][:2]
        return [
            (name, kind, cell) for file, of, name, kind, cell, first, last in self.names
            if (file, of) == home and first <= row <= last
        ]

    def things_at(self, number, row):
        """What can be named at a row of a def, by (f or "", n)."""
        file = self.defs[number][0]
        things = {("", name): thing for name, (thing, _) in self.own[file].items()}
        for used in self.uses[file]:
            for name, (thing, out) in self.own[used].items():
                if out:
                    things[used, name] = thing
        for name, kind, cell in self.standing(number, row):
            things["", name] = ("cell", cell, kind)
        return things

"""What each name of a file is, and the faults of names.

A thing is told inside the package by a tuple that no other thing of the house has: ("const", file,
n), so "keep" and "def"; ("part", file, the number of its def among all that is told, number), so "let".
"""

from wholetongue.errors import Fault
from wholetongue.files import used_in
from wholetongue.walking import blocks_of, named_in, worth_of

# Of several faults at one place the first of these is told.
WHYS = ("use", "twice", "ring", "unknown", "call", "fixed")


def names_by_file(trees):
    """The (place, name, thing) of all names of each file, the files rising."""
    return {file: names_in(trees, file) for file in sorted(trees)}


def names_in(trees, file):
    """The (place, name, thing) of all names of a file, in the text's turn."""
    namer = Namer(trees, file)
    namer.look_at_uses()
    namer.look_at_told()
    if namer.faults:
        place, rank = min(namer.faults)
        raise Fault("names", file, place, WHYS[rank])
    return namer.names


def things_told(file, told):
    """The things of what a file tells, by their names; of a name that is told twice the first."""
    things = {}
    for one in told:
        things.setdefault(one[3], (one[0], file, one[3]))
    return things


def leads_to(trees, first, file):
    """Whether a file, or one that it leads to by uses, is this one."""
    reached = []
    left = [first]
    while left:
        one = left.pop()
        if one in trees and one not in reached:
            reached.append(one)
            left.extend(used_in(trees[one]))
    return file in reached


def written(file, name):
    """n or f.n."""
    if file == "":
        return name
    return file + "." + name


class Namer:
    """Looks at all names of one file, in the text's turn."""

    def __init__(self, trees, file):
        self.trees = trees
        self.file = file
        self.told = trees[file][1]
        self.things = things_told(file, self.told)
        self.shown = {}
        self.ahead = {}
        self.home = 0
        self.lets = 0
        self.local = {}
        self.names = []
        self.faults = []

    def fault(self, place, why):
        self.faults.append((place, WHYS.index(why)))

    def look_at_uses(self):
        for place, used in self.trees[self.file][0]:
            if used not in self.trees:
                self.fault(place, "use")
            elif used in self.shown:
                self.fault(place, "twice")
            else:
                self.look_at_use(place, used)

    def look_at_use(self, place, used):
        if leads_to(self.trees, used, self.file):
            self.fault(place, "ring")
        told = [one for one in self.trees[used][1] if one[2]]
        self.shown[used] = things_told(used, told)

    def look_at_told(self):
        for number, one in enumerate(self.told):
            what, place, _, name = one[:4]
            if name in self.ahead:
                self.fault(place, "twice")
            self.names.append((place, name, (what, self.file, name)))
            if what == "def":
                self.look_at_def(one, number)
            else:
                self.look_at_fixed(one[4])
            self.ahead[name] = True

    def look_at_fixed(self, worth):
        """The E of a const or a keep, in which only consts stand."""
        for one in named_in(worth):
            thing = self.thing_of(one[2], one[3], {})
            if thing == ("const", self.file, one[3]) and one[3] not in self.ahead:
                thing = None
            self.name(one, thing)
            if thing is not None and thing[0] != "const":
                self.fault(one[1], "fixed")

    def look_at_def(self, one, number):
        self.home = number
        self.lets = 0
        self.local = {}
        seen = {}
        for part, (place, name, _) in enumerate(one[4]):
            seen[name] = self.tell(place, name, "part", part)
        self.look_at_rows(one[6], seen)

    def tell(self, place, name, what, number):
        """A part or a let of the def that is looked at."""
        if name in self.local or name in self.things:
            self.fault(place, "twice")
        self.local[name] = True
        thing = (what, self.file, self.home, number)
        self.names.append((place, name, thing))
        return thing

    def look_at_rows(self, rows, seen):
        # What is told among these rows is not seen behind them.
        seen_here = dict(seen)
        for row in rows:
            self.look_at_row(row, seen_here)

    def look_at_row(self, row, seen):
        thing = None
        if row[0] == "let":
            thing = self.tell(row[1], row[2], "let", self.lets)
            self.lets += 1
        if row[0] == "set":
            self.look_at_set(row[1], row[2], seen)
        worth = worth_of(row)
        if worth is not None:
            for one in named_in(worth):
                self.name(one, self.thing_of(one[2], one[3], seen))
        if thing is not None:
            # Only now: a let's name doesn't stand in its own E.
            seen[row[2]] = thing
        for block in blocks_of(row):
            self.look_at_rows(block, seen)

    def look_at_set(self, place, name, seen):
        thing = self.thing_of("", name, seen)
        self.names.append((place, name, thing))
        if thing is None:
            self.fault(place, "unknown")
        elif thing[0] not in ("part", "let", "keep"):
            self.fault(place, "fixed")

    def thing_of(self, file, name, seen):
        """What a name is, None where it isn't there."""
        if file != "":
            return self.shown.get(file, {}).get(name)
        if name in seen:
            return seen[name]
        return self.things.get(name)

    def name(self, one, thing):
        """A name or a call in an E, which is this thing."""
        what, place, file, name = one[:4]
        self.names.append((place, written(file, name), thing))
        if thing is None:
            self.fault(place, "unknown")
        elif (what == "call") != (thing[0] == "def"):
            self.fault(place, "call")

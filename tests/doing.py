"""Two ways to run a def: its rows of cells done as [12] tells, its text read as [11] tells.

Both tell a Told: what is said, how it ended, and (file, def, place, calls under way, names' worths,
parts' worths) of each row of text that began. Truths are told as True and False by said and the
end, as 1 and 0 among worths.
"""

from wholetongue.tree import tree_of

MOST = 1_000_000_000_000
MOST_CALLS = 32


class Stop(Exception):
    def __init__(self, why, file, place):
        Exception.__init__(self, why)
        self.told = ("fault", why, file, place)


class Told:
    def __init__(self, most):
        self.most = most
        self.said = []
        self.begun = []
        self.end = None

    def begin(self, file, name, place, depth, names, parts):
        if len(self.begun) == self.most:
            raise Stop("tired", file, place)
        self.begun.append((file, name, place, depth, names, parts))

    def all(self):
        return self.said, self.end, self.begun


def by_kind(kind, worth):
    return bool(worth) if kind == "yes" else worth


def checked(word, first, second, file, place):
    """What a sign tells of two numbers."""
    if word in ("/", "mod") and second == 0:
        raise Stop("nought", file, place)
    worth = {
        "+": first + second, "-": first - second, "*": first * second, "<": int(first < second),
        "/": first // second if second else 0, "mod": first % second if second else 0,
        "=": int(first == second), "<>": int(first != second), "<=": int(first <= second),
    }[word]
    if abs(worth) > MOST:
        raise Stop("great", file, place)
    return worth


# Rows of cells.

SIGNS = {
    "add": "+", "take": "-", "times": "*", "over": "/", "rest": "mod", "less": "<", "same": "=",
}


def do_rows(defs, keeps, start, given=(), most=300):
    """Do the rows of defs, which stand by (file, n), from the def at start on."""
    told = Told(most)
    machine = Machine(defs, dict(keeps), told)
    try:
        worth = machine.call(start, given, 1)
        told.end = ("end", None if worth is None else by_kind(defs[start][2], worth))
    except Stop as stop:
        told.end = stop.told
    return told


class Machine:
    def __init__(self, defs, keeps, told):
        self.defs = defs
        self.keeps = keeps
        self.told = told

    def call(self, start, given, depth):
        file = start[0]
        name, kinds, kind, _, rows, names = self.defs[start]
        assert len(given) == len(kinds)
        frame = Frame(start, dict(enumerate(given)), len(given), names, depth)
        labels = {row[1]: at for at, row in enumerate(rows) if row[0] == "label"}
        at = 0
        while True:
            row = rows[at]
            what, place = row[0], row[-1]
            at += 1
            if what == "go":
                at = labels[row[1]]
            elif what == "unless":
                if frame.cells[row[1]] == 0:
                    at = labels[row[2]]
            elif what == "give":
                assert (row[1] is None) == (kind == "")
                return None if row[1] is None else frame.cells[row[1]]
            elif what == "nothing":
                raise Stop("nothing", file, place)
            else:
                self.do(frame, row)

    def do(self, frame, row):
        what, place = row[0], row[-1]
        file, cells = frame.start[0], frame.cells
        if what == "begin":
            self.told.begin(*frame.start, place, frame.depth, frame.standing(place[0]), frame.parts())
        elif what == "put":
            assert type(row[2]) is int
            cells[row[1]] = row[2]
        elif what == "copy":
            cells[row[1]] = cells[row[2]]
        elif what == "fetch":
            cells[row[1]] = self.keeps[row[2:4]]
        elif what == "lay":
            assert (file, row[1]) in self.keeps
            self.keeps[file, row[1]] = cells[row[2]]
        elif what == "say":
            self.told.said.append(by_kind(row[1], cells[row[2]]))
        elif what == "call":
            self.do_call(frame, row)
        elif what != "label":
            cells[row[1]] = checked(SIGNS[what], cells[row[2]], cells[row[3]], file, place)
        if what != "label":
            assert all(0 <= cell < 1000 for cell in cells)

    def do_call(self, frame, row):
        _, cell, file, name, given, place = row
        given = [frame.cells[one] for one in given]
        if frame.depth == MOST_CALLS:
            raise Stop("deep", frame.start[0], place)
        worth = self.call((file, name), given, frame.depth + 1)
        assert (cell is None) == (worth is None)
        if cell is not None:
            frame.cells[cell] = worth


class Frame:
    def __init__(self, start, cells, many, names, depth):
        self.start = start
        self.cells = cells
        self.many = many
        self.names = names
        self.depth = depth

    def standing(self, row):
        return {
            name: self.cells[cell] for name, _, cell, first, last in self.names if first <= row <= last
        }

    def parts(self):
        return tuple(self.cells[cell] for cell in range(self.many))


# Texts.


def read_texts(house, start, given=(), most=300):
    """Run a def by its text alone."""
    told = Told(most)
    reader = Reader(house, told)
    try:
        worth = reader.call(start, given, 1)
        told.end = ("end", None if worth is None else by_kind(reader.def_at(start)[5], worth))
    except Stop as stop:
        told.end = stop.told
    return told


class Reader:
    def __init__(self, house, told):
        self.told = told
        self.trees = {file: tree_of(text)[1] for file, text in house.items()}
        self.keeps = {}
        for file, tree in self.trees.items():
            for one in tree:
                if one[0] == "keep":
                    self.keeps[file, one[3]] = self.worth(one[4], Block(file, "", 1))

    def find(self, file, name):
        return [one for one in self.trees[file] if one[3] == name][0]

    def def_at(self, start):
        return self.find(*start)

    def call(self, start, given, depth):
        one = self.def_at(start)
        block = Block(*start, depth)
        for (_, name, _), worth in zip(one[4], given):
            block.worths[name] = worth
        block.part_names = [name for _, name, _ in one[4]]
        gave = self.rows(one[6], block)
        if gave is None and one[5] != "":
            raise Stop("nothing", start[0], one[7])
        return gave[0] if gave else None

    def rows(self, rows, outer):
        """None where nothing was given, else a list of what was."""
        block = outer.inner()
        for row in rows:
            gave = self.row(row, block)
            if gave is not None:
                return gave
        return None

    def row(self, row, block):
        what, place = row[0], row[1]
        self.begin(block, place)
        if what == "while":
            while self.worth(row[2], block):
                gave = self.rows(row[3], block)
                if gave is not None:
                    return gave
                self.begin(block, place)
        elif what == "if":
            return self.rows(row[3] if self.worth(row[2], block) else row[4], block)
        elif what == "let":
            block.worths[row[2]] = self.worth(row[3], block)
        elif what == "set":
            self.set(row[2], self.worth(row[3], block), block)
        elif what == "give":
            return [None if row[2] is None else self.worth(row[2], block)]
        elif what == "say":
            self.told.said.append(by_kind(self.kind(row[2], block), self.worth(row[2], block)))
        else:
            self.worth(row[2], block)
        return None

    def begin(self, block, place):
        self.told.begin(block.file, block.name, place, block.depth, block.seen(), block.parts())

    def set(self, name, worth, block):
        holder = block.holder(name)
        if holder is None:
            assert (block.file, name) in self.keeps
            self.keeps[block.file, name] = worth
        else:
            holder.worths[name] = worth

    def kind(self, worth, block):
        """The kind of an E, by what is told of its names."""
        what = worth[0]
        if what == "call":
            return self.find(worth[2] or block.file, worth[3])[5]
        if what != "name":
            return "num" if what in ("num", "neg", "+", "-", "*", "/", "mod") else "yes"
        if worth[2] == "" and block.holder(worth[3]) is not None:
            return self.local_kind(self.find(block.file, block.name), worth[3], block)
        one = self.find(worth[2] or block.file, worth[3])
        return self.kind(one[4], Block(worth[2] or block.file, "", 1))

    def local_kind(self, one, name, block):
        for _, part, kind in one[4]:
            if part == name:
                return kind
        return self.kind(let_row(one[6], name)[3], block)

    def worth(self, worth, block):
        what, place = worth[0], worth[1]
        if what in ("num", "truth"):
            return int(worth[2])
        if what == "name":
            return self.named(worth, block)
        if what == "call":
            given = [self.worth(one, block) for one in worth[4]]
            if block.depth == MOST_CALLS:
                raise Stop("deep", block.file, place)
            return self.call((worth[2] or block.file, worth[3]), given, block.depth + 1)
        first = self.worth(worth[2], block)
        if what == "neg":
            return -first
        if what == "not":
            return int(not first)
        if what == "or":
            return first or self.worth(worth[3], block)
        if what == "and":
            return first and self.worth(worth[3], block)
        return checked(what, first, self.worth(worth[3], block), block.file, place)

    def named(self, worth, block):
        _, _, file, name = worth
        holder = block.holder(name) if file == "" else None
        if holder is not None:
            return holder.worths[name]
        file = file or block.file
        if (file, name) in self.keeps:
            return self.keeps[file, name]
        return self.worth(self.find(file, name)[4], Block(file, "", 1))


def let_row(rows, name):
    """The let of that name among rows and within them."""
    for row in rows:
        if row[0] == "let" and row[2] == name:
            return row
        for inner in row[3:]:
            found = let_row(inner, name) if row[0] in ("if", "while") else None
            if found:
                return found
    return None


class Block:
    """The names among some rows, and around them."""

    def __init__(self, file, name, depth, outer=None):
        self.file = file
        self.name = name
        self.depth = depth
        self.outer = outer
        self.worths = {}
        self.part_names = []

    def inner(self):
        return Block(self.file, self.name, self.depth, self)

    def holder(self, name):
        if name in self.worths:
            return self
        return self.outer.holder(name) if self.outer else None

    def seen(self):
        seen = self.outer.seen() if self.outer else {}
        return {**seen, **self.worths}

    def parts(self):
        if self.outer:
            return self.outer.parts()
        return tuple(self.worths[name] for name in self.part_names)

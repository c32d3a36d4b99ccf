"""The rows of cells that do what a def's text does."""

from wholetongue.kinds import kind_in
from wholetongue.sums import WORDS
from wholetongue.walking import all_rows


class Maker:
    """Makes the rows of one def, one behind the other.

    Each part and let has a cell of its own, the parts the first ones. The cells from the first
    free one on hold what an E needs on its way: they are laid anew in each row of text.
    """

    def __init__(self, looked, told):
        self.looked = looked
        self.told = told
        self.cells = {}
        self.made = []
        self.names = []
        self.labels = 0

    def make(self):
        _, place, _, _, parts, kind, rows, end = self.told
        for part, name, part_kind in parts:
            cell = self.take_cell(part)
            self.names.append((name, part_kind, cell, place[0], end[0]))
        for row in all_rows(rows):
            if row[0] == "let":
                self.take_cell(row[1])
        self.make_rows(rows)
        if kind == "":
            self.made.append(("give", None, end))
        else:
            self.made.append(("nothing", end))

    def take_cell(self, place):
        """The next cell, for the part or let that is told at this place."""
        cell = len(self.cells)
        self.cells[self.looked.meant[place]] = cell
        return cell

    def new_label(self):
        self.labels += 1
        return self.labels

    def make_rows(self, rows):
        for row in rows:
            if row[0] == "let":
                self.tell_let(row, rows)
            if row[0] == "while":
                self.make_while(row)
            else:
                self.made.append(("begin", row[1]))
                self.make_row(row)

    def tell_let(self, row, among):
        _, place, name, worth = row
        cell = self.cells[self.looked.meant[place]]
        last = max([other[1][0] for other in all_rows(among)])
        self.names.append((name, kind_in(self.looked, worth), cell, place[0] + 1, last))

    def make_row(self, row):
        """What a row does once it has begun, but for a while."""
        what, place = row[0], row[1]
        if what == "let":
            self.lay(row[3], self.cells[self.looked.meant[place]], len(self.cells))
        elif what == "set":
            self.make_set(row)
        elif what == "if":
            self.make_if(row)
        elif what == "give" and row[2] is None:
            self.made.append(("give", None, place))
        elif what == "give":
            self.made.append(("give", self.hold(row[2], len(self.cells)), place))
        elif what == "say":
            cell = self.hold(row[2], len(self.cells))
            self.made.append(("say", kind_in(self.looked, row[2]), cell, place))
        else:
            self.lay_call(row[2], len(self.cells), len(self.cells))

    def make_set(self, row):
        _, place, name, worth = row
        free = len(self.cells)
        thing = self.looked.meant[place]
        if thing[0] == "keep":
            self.made.append(("lay", name, self.hold(worth, free), place))
        elif worth[0] in ("or", "and"):
            # Their first worth is laid ahead of their second one, which may name what is set.
            self.lay(worth, free, free + 1)
            self.made.append(("copy", self.cells[thing], free, place))
        else:
            self.lay(worth, self.cells[thing], free)

    def make_if(self, row):
        _, place, worth, rows, others = row
        behind = self.new_label()
        self.made.append(("unless", self.hold(worth, len(self.cells)), behind, place))
        self.make_rows(rows)
        if others != ():
            end = self.new_label()
            self.made.append(("go", end, place))
            self.made.append(("label", behind, place))
            self.make_rows(others)
            behind = end
        self.made.append(("label", behind, place))

    def make_while(self, row):
        _, place, worth, rows = row
        again = self.new_label()
        behind = self.new_label()
        self.made.append(("label", again, place))
        self.made.append(("begin", place))
        self.made.append(("unless", self.hold(worth, len(self.cells)), behind, place))
        self.make_rows(rows)
        self.made.append(("go", again, place))
        self.made.append(("label", behind, place))

    def hold(self, worth, free):
        """The cell that holds an E's worth: that of a part or let, or else this free one."""
        if worth[0] == "name" and self.looked.meant[worth[1]] in self.cells:
            return self.cells[self.looked.meant[worth[1]]]
        self.lay(worth, free, free + 1)
        return free

    def lay(self, worth, cell, free):
        """Lay an E's worth into a cell, with those from a free one on to hold what is on its way.

        But for or and and, the cell is laid by the last row alone.
        """
        what, place = worth[0], worth[1]
        if what in ("num", "truth"):
            self.made.append(("put", cell, int(worth[2]), place))
        elif what == "name":
            self.lay_named(worth, cell)
        elif what == "call":
            self.lay_call(worth, cell, free)
        elif what in ("or", "and"):
            self.lay_either(worth, cell, free)
        elif what in ("neg", "not"):
            self.lay_turned(worth, cell, free)
        else:
            self.lay_signed(worth, cell, free)

    def lay_named(self, worth, cell):
        place = worth[1]
        thing = self.looked.meant[place]
        if thing[0] == "const":
            self.made.append(("put", cell, self.looked.worths[thing], place))
        elif thing[0] == "keep":
            self.made.append(("fetch", cell, thing[1], thing[2], place))
        else:
            self.made.append(("copy", cell, self.cells[thing], place))

    def lay_call(self, worth, cell, free):
        _, place, _, _, given = worth
        cells = []
        for one in given:
            cells.append(self.hold(one, free + len(cells)))
        thing = self.looked.meant[place]
        if kind_in(self.looked, worth) == "":
            self.made.append(("call", None, thing[1], thing[2], tuple(cells), place))
        else:
            self.made.append(("call", cell, thing[1], thing[2], tuple(cells), place))

    def lay_either(self, worth, cell, free):
        """or and and: the second is laid over the first, where it's wanted."""
        what, place, first, second = worth
        self.lay(first, cell, free)
        end = self.new_label()
        if what == "and":
            self.made.append(("unless", cell, end, place))
        else:
            wanted = self.new_label()
            self.made.append(("unless", cell, wanted, place))
            self.made.append(("go", end, place))
            self.made.append(("label", wanted, place))
        self.lay(second, cell, free)
        self.made.append(("label", end, place))

    def lay_turned(self, worth, cell, free):
        """neg and not: what is taken from 0, what is the same as 0."""
        what, place, inner = worth
        held = self.hold(inner, free)
        self.made.append(("put", free + 1, 0, place))
        if what == "neg":
            self.made.append(("take", cell, free + 1, held, place))
        else:
            self.made.append(("same", cell, held, free + 1, place))

    def lay_signed(self, worth, cell, free):
        sign, place, first, second = worth
        held = self.hold(first, free)
        other = self.hold(second, free + 1)
        if sign == "<>":
            self.lay_denied("same", held, other, cell, free, place)
        elif sign == "<=":
            self.lay_denied("less", other, held, cell, free, place)
        else:
            self.made.append((WORDS[sign], cell, held, other, place))

    def lay_denied(self, word, first, second, cell, free, place):
        """The truth that less or same tells, turned."""
        self.made.append((word, free, first, second, place))
        self.made.append(("put", free + 1, 0, place))
        self.made.append(("same", cell, free, free + 1, place))

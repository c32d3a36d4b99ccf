"""What is made of each file of a house, ahead of being laid into an image."""

from wholetongue.lean import lean_of
from wholetongue.looking import looked_over
from wholetongue.machine import machine_of
from wholetongue.middle import middle_in
from wholetongue.worths import face_in, worths_told


class Made:
    """What is made of one file."""

    def __init__(self, looked, lean):
        self.file = looked.file
        self.looked = looked
        self.face = face_in(looked)
        self.consts, self.keeps = worths_told(looked, "const"), worths_told(looked, "keep")
        self.defs = [MadeDef(looked.file, one, lean) for one in middle_in(looked)]


class MadeDef:
    """One def as rows of cells, and as rows of a machine."""

    def __init__(self, file, one, lean):
        if lean:
            one = lean_of(one)
        self.file = file
        self.def_name, self.kinds, self.gives, self.is_out, self.cell_rows, self.names = one
        self.rows = machine_of(one)
        self.many_cells = cells_in(self)


def cells_in(made_def):
    """How many cells a def has: all that it reads, lays or names are below that."""
    cells = [row[1] for row in made_def.rows if row[0] in ("load", "store")]
    cells.extend([cell for _, _, cell, _, _ in made_def.names])
    cells.append(len(made_def.kinds) - 1)
    return max(cells) + 1


def made_of(house, lean):
    """What is made of all files of a house, rising by their names."""
    looked = looked_over(house)
    return [Made(looked[file], lean) for file in sorted(looked)]

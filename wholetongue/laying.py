"""What is made of a house's files, laid into one image."""

from wholetongue.codes import KINDS, WORDS, size_of


class Spot:
    """Where one row of a machine is laid: its number in its def, the def's in the image, and its place."""

    def __init__(self, at, number, made_def, row):
        self.at = at
        self.number = number
        self.file = made_def.file
        self.row = row
        self.cell_row = made_def.rows[row][-1]
        self.place = made_def.cell_rows[self.cell_row][-1]


class Layout:
    """Where all that is made of files, which rise by their names, stands in an image."""

    def __init__(self, files):
        self.files = files
        self.defs = [made_def for made in files for made_def in made.defs]
        self.spots = []
        # Where the code of each def begins, and that of each row, by the def's number and the row's.
        self.starts = []
        self.at_row = {}
        # Each def's number by (file, n), each keep's too.
        self.def_at = {}
        self.keep_at = {}
        self.end = 0
        self.place_defs()
        self.place_keeps()

    def place_defs(self):
        for number, made_def in enumerate(self.defs):
            self.def_at[made_def.file, made_def.def_name] = number
            self.starts.append(self.end)
            for row, told in enumerate(made_def.rows):
                self.spots.append(Spot(self.end, number, made_def, row))
                self.at_row[number, row] = self.end
                self.end += size_of(told[0])

    def place_keeps(self):
        for made in self.files:
            for keep in made.keeps:
                self.keep_at[made.file, keep[0]] = len(self.keep_at)

    def code_of(self, spot):
        """The code of the row that is laid at a spot, and what it has."""
        row = self.defs[spot.number].rows[spot.row]
        return [WORDS.index(row[0])] + self.has_of(spot, row)

    def has_of(self, spot, row):
        """The numbers that a row's code has."""
        what = row[0]
        if what == "fetch":
            return [self.keep_at[row[1], row[2]]]
        if what == "lay":
            return [self.keep_at[spot.file, row[1]]]
        if what in ("jump", "unless"):
            return [self.at_row[spot.number, row[1]]]
        if what == "call":
            number = self.def_at[row[1], row[2]]
            return [self.starts[number], row[3], self.defs[number].many_cells]
        if what == "say":
            return [KINDS.index(row[1])]
        return list(row[1:-1])


def image_laid(layout):
    """The image in which all stands where a layout tells."""
    code = []
    for spot in layout.spots:
        code.extend(layout.code_of(spot))
    files = layout.files
    return (
        tuple(code),
        tuple([(spot.at, spot.file, spot.place) for spot in layout.spots]),
        defs_laid(layout),
        tuple([(made.file,) + keep for made in files for keep in made.keeps]),
        tuple([(made.file,) + const for made in files for const in made.consts]),
        tuple([(made.file, tuple(made.looked.uses)) for made in files]),
        tuple([(one.file, one.def_name) + name for one in layout.defs for name in one.names]),
    )


def defs_laid(layout):
    ends = layout.starts[1:] + [layout.end]
    laid = []
    for one, at, end in zip(layout.defs, layout.starts, ends):
        laid.append((one.file, one.def_name, at, end, one.kinds, one.gives, one.is_out, one.many_cells))
    return tuple(laid)

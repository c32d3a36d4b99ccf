"""The defs of a house's files as rows of cells."""

from wholetongue.cells import Maker
from wholetongue.looking import looked_at


def middle_of(house, file):
    """(n, parts' kinds, kind, out, rows, names) of each def of a file, in the text's turn."""
    return middle_in(looked_at(house, file))


def middle_in(looked):
    """What middle_of tells of a file that was looked at."""
    return [def_made(looked, one) for one in looked.told if one[0] == "def"]


def def_made(looked, told):
    maker = Maker(looked, told)
    maker.make()
    _, _, out, name, parts, kind, _, _ = told
    kinds = tuple([part_kind for _, _, part_kind in parts])
    return name, kinds, kind, out, tuple(maker.made), tuple(maker.names)

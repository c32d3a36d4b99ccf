"""The files of a house, looked over by all stages ahead of the rows of cells."""

from wholetongue.consts import set_worths
from wholetongue.files import of_file, trees_of, turn_of, used_in
from wholetongue.kinds import check_kinds, set_kinds
from wholetongue.naming import names_by_file


class Looked:
    """A file, and what is found of it.

    meant tells the thing of a name (as naming.py tells things) by its place; kinds the kind of a
    thing, (parts' kinds, kind) of a def; worths the worth of a const, and of the file's own keeps.
    """

    def __init__(self, file, tree, names):
        self.file = file
        self.uses = used_in(tree)
        self.told = tree[1]
        self.meant = {place: thing for place, _, thing in names}
        self.kinds = {}
        self.worths = {}


def looked_at(house, file):
    """A file of a house, looked over as all others of the house are."""
    return of_file(looked_over(house), file)


def looked_over(house):
    """All files of a house by their names."""
    trees = trees_of(house)
    names = names_by_file(trees)
    looked = {}
    for file in turn_of(trees):
        looked[file] = look_over(file, trees[file], names[file], looked)
    return looked


def look_over(file, tree, names, looked):
    """A file with its kinds and worths, where those it uses are looked over."""
    one = Looked(file, tree, names)
    for used in one.uses:
        take_shown(one, looked[used])
    set_kinds(one)
    check_kinds(one)
    set_worths(one)
    return one


def take_shown(looked, used):
    """Take from a used file what it tells with out."""
    for what, place, out in [one[:3] for one in used.told]:
        thing = used.meant[place]
        if out:
            looked.kinds[thing] = used.kinds[thing]
        if out and what == "const":
            looked.worths[thing] = used.worths[thing]

"""The names of a house's files."""

from wholetongue.files import of_file, trees_of, used_in
from wholetongue.naming import names_by_file


def names_of(house, file):
    """(place, name, what) of all names of a file, in the text's turn."""
    names = of_file(names_by_file(trees_of(house)), file)
    return [(place, name, what_of(thing)) for place, name, thing in names]


def uses_of(house, file):
    """The files that a file uses, in turn."""
    trees = trees_of(house)
    names = names_by_file(trees)
    of_file(names, file)
    return tuple(used_in(trees[file]))


def what_of(thing):
    """What a name is, as it is told outside: a part or let by its number alone."""
    if thing[0] in ("part", "let"):
        return thing[0], thing[3]
    return thing

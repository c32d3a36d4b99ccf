"""What two houses tell otherwise."""

from wholetongue.files import trees_of, used_in
from wholetongue.walking import is_place


def differing(house, other):
    """(file, n, why) of all consts, keeps and defs that two houses tell otherwise, rising."""
    return differing_trees(trees_of(house), trees_of(other))


def otherwise_by(house, other):
    """The files that tell more than places otherwise, or use other files, or in another turn."""
    trees, others = trees_of(house), trees_of(other)
    told = [file for file, _, why in differing_trees(trees, others) if why != "moved"]
    files = sorted(set(trees) | set(others))
    return [file for file in files if file in told or uses_in(trees, file) != uses_in(others, file)]


def differing_trees(trees, others):
    first, second = told_by_name(trees), told_by_name(others)
    found = []
    for file, name in sorted(set(first) | set(second)):
        why = why_otherwise(first.get((file, name)), second.get((file, name)))
        if why != "":
            found.append((file, name, why))
    return found


def told_by_name(trees):
    """What is told, by (file, n); of a name that is told twice the first."""
    told = {}
    for file, tree in trees.items():
        for one in tree[1]:
            told.setdefault((file, one[3]), one)
    return told


def why_otherwise(one, other):
    """Why a thing is told otherwise, None standing for one that isn't told; "" where it's not."""
    if one is None:
        return "new"
    if other is None:
        return "gone"
    if one[0] != other[0]:
        return "kind"
    if without_places(one[3:]) != without_places(other[3:]):
        return "told"
    if one[2] != other[2]:
        return "out"
    if one != other:
        return "moved"
    return ""


def without_places(tree):
    """A tree whose places are left empty."""
    if not isinstance(tree, tuple):
        return tree
    if is_place(tree):
        return ()
    return tuple([without_places(thing) for thing in tree])


def uses_in(trees, file):
    """The files that a file uses, in turn; none of one that isn't there."""
    if file not in trees:
        return []
    return used_in(trees[file])

"""The kinds of a house's files, the worths of their consts and keeps, and what they show."""

from wholetongue.kinds import kinds_in
from wholetongue.looking import looked_at


def kinds_of(house, file):
    """(place, kind) of each E of a file, ahead of those within it, in the text's turn."""
    return kinds_in(looked_at(house, file))


def worths_of(house, file):
    """(consts, keeps) of a file: a list of (n, kind, worth as a number, out) of each."""
    looked = looked_at(house, file)
    return worths_told(looked, "const"), worths_told(looked, "keep")


def worths_told(looked, what):
    told = []
    for one in looked.told:
        if one[0] == what:
            thing = looked.meant[one[1]]
            told.append((one[3], looked.kinds[thing], looked.worths[thing], one[2]))
    return told


def face_of(house, file):
    """What a file shows to those that use it, rising by names."""
    return face_in(looked_at(house, file))


def face_in(looked):
    """What face_of tells of a file that was looked at."""
    return sorted([shown(looked, one) for one in looked.told if one[2]])


def shown(looked, one):
    """What a file shows of one thing that it tells."""
    what, name = one[0], one[3]
    thing = looked.meant[one[1]]
    kind = looked.kinds[thing]
    if what == "def":
        parts, given = kind
        return name, what, parts, given
    if what == "keep":
        return name, what, kind
    return name, what, kind, told_worth(kind, looked.worths[thing])


def told_worth(kind, worth):
    """A worth as it is told by its kind: a truth as True or False."""
    if kind == "yes":
        return worth == 1
    return worth

"""The worths of a file's consts and keeps, worked out."""

from wholetongue.errors import Fault
from wholetongue.sums import WORDS, done, trouble_of


def set_worths(looked):
    """Tell the worths of all consts and keeps that a file tells, or refuse the first fault."""
    for one in looked.told:
        if one[0] != "def":
            looked.worths[looked.meant[one[1]]] = work_out(looked, one[4])


def work_out(looked, worth):
    """The worth of an E in which only consts are named, truths as 1 and 0."""
    what, place = worth[0], worth[1]
    if what in ("num", "truth"):
        return int(worth[2])
    if what == "name":
        return looked.worths[looked.meant[place]]
    first = work_out(looked, worth[2])
    if what == "neg":
        return -first
    if what == "not":
        return 1 - first
    if what == "and" and first == 0 or what == "or" and first == 1:
        return first
    second = work_out(looked, worth[3])
    if what in ("and", "or"):
        return second
    return signed(looked, worth, first, second)


def signed(looked, worth, first, second):
    """What a sign between two numbers tells."""
    sign, place = worth[0], worth[1]
    if sign == "<>":
        return 1 - done("same", first, second)
    if sign == "<=":
        return 1 - done("less", second, first)
    why = trouble_of(WORDS[sign], first, second)
    if why != "":
        raise Fault("consts", looked.file, place, why)
    return done(WORDS[sign], first, second)

"""The kinds of all E of a file, and their faults."""

from wholetongue.errors import Fault
from wholetongue.walking import all_rows, all_within, inner_of, worth_of, worths_in

KIND_OF_SIGN = {
    "num": "num", "truth": "yes", "not": "yes", "neg": "num", "or": "yes", "and": "yes",
    "=": "yes", "<>": "yes", "<": "yes", "<=": "yes",
    "+": "num", "-": "num", "*": "num", "/": "num", "mod": "num",
}
TAKES_TRUTHS = ("not", "or", "and")
TAKES_ONE_KIND = ("=", "<>")


def kind_in(looked, worth):
    """The kind of an E of a file, "" for a call of a def without kind."""
    if worth[0] == "name":
        return looked.kinds[looked.meant[worth[1]]]
    if worth[0] == "call":
        return looked.kinds[looked.meant[worth[1]]][1]
    return KIND_OF_SIGN[worth[0]]


def set_kinds(looked):
    """Tell the kinds of all that a file tells.

    A kind hangs on no more than the loosest sign of an E, so they are all there before an E is
    checked. Consts come ahead of defs, which may name those that are told behind them.
    """
    for one in looked.told:
        if one[0] == "def":
            parts = tuple([kind for _, _, kind in one[4]])
            looked.kinds[looked.meant[one[1]]] = (parts, one[5])
        else:
            looked.kinds[looked.meant[one[1]]] = kind_in(looked, one[4])
    for one in looked.told:
        if one[0] == "def":
            set_kinds_in_def(looked, one)


def set_kinds_in_def(looked, one):
    for place, _, kind in one[4]:
        looked.kinds[looked.meant[place]] = kind
    for row in all_rows(one[6]):
        if row[0] == "let":
            looked.kinds[looked.meant[row[1]]] = kind_in(looked, row[3])


def kinds_in(looked):
    """(place, kind) of each E of a file, ahead of those within it, in the text's turn."""
    kinds = []
    for worth in worths_in(looked.told):
        for one in all_within(worth):
            kinds.append((one[1], kind_in(looked, one)))
    return kinds


def check_kinds(looked):
    """Refuse the first fault of kinds of a file."""
    for one in looked.told:
        if one[0] == "def":
            for row in all_rows(one[6]):
                check_row(looked, row, one[5])
        else:
            check_worth(looked, one[4])


def check_row(looked, row, kind_of_def):
    """Refuse the first fault of a row, but not of those within it."""
    worth = worth_of(row)
    if worth is None:
        if kind_of_def != "":
            refuse(looked, row[1])
        return
    check_worth(looked, worth)
    if row[0] in ("let", "say"):
        check_any(looked, worth)
    elif row[0] == "set":
        check_kind(looked, worth, looked.kinds[looked.meant[row[1]]])
    elif row[0] in ("if", "while"):
        check_kind(looked, worth, "yes")
    elif row[0] == "give":
        check_given(looked, worth, kind_of_def)


def check_given(looked, worth, kind_of_def):
    # Where the def has no kind, not even a call without kind can be given.
    if kind_of_def == "":
        refuse(looked, worth[1])
    check_kind(looked, worth, kind_of_def)


def check_worth(looked, worth):
    """Refuse the first fault within an E, which is looked at behind those within it."""
    for inner in inner_of(worth):
        check_worth(looked, inner)
    wanted = kinds_wanted(looked, worth)
    if len(wanted) != len(inner_of(worth)):
        refuse(looked, worth[1])
    for inner, kind in zip(inner_of(worth), wanted):
        check_kind(looked, inner, kind)


def kinds_wanted(looked, worth):
    """The kinds that an E takes of those directly within it, from the left."""
    if worth[0] == "call":
        return looked.kinds[looked.meant[worth[1]]][0]
    if worth[0] in TAKES_TRUTHS:
        return ("yes",) * len(inner_of(worth))
    if worth[0] in TAKES_ONE_KIND:
        # A first one without a kind is wrong by itself, whatever the second one is.
        return (kind_in(looked, worth[2]) or "num",) * 2
    return ("num",) * len(inner_of(worth))


def check_any(looked, worth):
    """Refuse a call without kind."""
    check_kind(looked, worth, kind_in(looked, worth) or "num")


def check_kind(looked, worth, kind):
    if kind_in(looked, worth) != kind:
        refuse(looked, worth[1])


def refuse(looked, place):
    raise Fault("kinds", looked.file, place, "kinds")

"""Rows of cells as rows of a machine."""

from wholetongue.flow import SIGNED, places_of_labels


def machine_of(one):
    """A machine's rows, which do what a def's rows of cells do; their last thing is that row's number.

    Each row of cells lays all that it needs on the pile and takes it off again, so that the pile
    is empty between them.
    """
    rows = one[4]
    made = []
    firsts = []
    for number, row in enumerate(rows):
        firsts.append(len(made))
        made.extend([thing + (number,) for thing in rows_for(row)])
    labels = {label: firsts[at] for label, at in places_of_labels(rows).items()}
    return [with_number(row, labels) for row in made]


def rows_for(row):
    """What a row of cells is on the machine, but for its number; ways lead to labels still."""
    what = row[0]
    if what == "begin":
        return [("row",)]
    if what == "nothing":
        return [("nothing",)]
    if what == "put":
        return [("push", row[2]), ("store", row[1])]
    if what == "copy":
        return [("load", row[2]), ("store", row[1])]
    if what == "fetch":
        return [("fetch", row[2], row[3]), ("store", row[1])]
    if what in SIGNED:
        return [("load", row[2]), ("load", row[3]), (what,), ("store", row[1])]
    if what == "call":
        return rows_for_call(row)
    if what == "give" and row[1] is None:
        return [("give", 0)]
    if what == "give":
        return [("load", row[1]), ("give", 1)]
    if what in ("lay", "say"):
        return [("load", row[2]), (what, row[1])]
    return rows_for_way(row)


def rows_for_call(row):
    _, cell, file, name, given, _ = row
    made = [("load", one) for one in given]
    made.append(("call", file, name, len(given)))
    if cell is not None:
        made.append(("store", cell))
    return made


def rows_for_way(row):
    if row[0] == "go":
        return [("jump", row[1])]
    if row[0] == "unless":
        return [("load", row[1]), ("unless", row[2])]
    # A label is just the number of the row behind it.
    return []


def with_number(row, labels):
    """A row that leads to a row's number instead of a label."""
    if row[0] in ("jump", "unless"):
        return row[0], labels[row[1]], row[2]
    return row

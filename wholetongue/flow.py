"""What rows of cells read and lay, where they lead, and what cells hold at them."""

from wholetongue.sums import done, trouble_of

SIGNED = ("add", "take", "times", "over", "rest", "less", "same")
LAYING = ("add", "take", "times", "over", "rest", "less", "same", "put", "copy", "fetch", "call")
ENDING = ("give", "nothing")


def cells_read(row):
    """The cells that a row reads."""
    what = row[0]
    if what in SIGNED:
        return row[2], row[3]
    if what in ("copy", "lay", "say"):
        return (row[-2],)
    if what == "unless" or what == "give" and row[1] is not None:
        return (row[1],)
    if what == "call":
        return row[4]
    return ()


def cell_laid(row):
    """The cell that a row lays, None for a row that lays none."""
    if row[0] in LAYING:
        return row[1]
    return None


def places_of_labels(rows):
    """The number of each label's row."""
    return {row[1]: at for at, row in enumerate(rows) if row[0] == "label"}


def rows_behind(rows, labels, at):
    """The numbers of the rows that may be done right behind a row."""
    row = rows[at]
    if row[0] == "go":
        return (labels[row[1]],)
    if row[0] in ENDING:
        return ()
    if row[0] == "unless":
        return at + 1, labels[row[2]]
    return (at + 1,)


def known_ahead(rows):
    """What is surely held ahead of each row: numbers by cells, None where no run comes to."""
    labels = places_of_labels(rows)
    known = [None] * len(rows)
    known[0] = {}
    left = [0]
    while left:
        at = left.pop()
        held = known_behind(rows[at], known[at])
        goals = rows_come_to(rows, labels, at, known[at])
        for to in goals:
            both = in_both(known[to], held)
            if both != known[to]:
                known[to] = both
                left.append(to)
    return known


def rows_come_to(rows, labels, at, known):
    """The numbers of the rows that are done right behind a row, by what is known ahead of it."""
    row = rows[at]
    if row[0] != "unless" or row[1] not in known:
        return rows_behind(rows, labels, at)
    if known[row[1]] == 0:
        return (labels[row[2]],)
    return (at + 1,)


def known_behind(row, known):
    """What is known behind a row, by what is known ahead of it."""
    laid = cell_laid(row)
    held = {cell: worth for cell, worth in known.items() if cell != laid}
    worth_laid = known_worth(row, known)
    if worth_laid is not None:
        held[laid] = worth_laid
    return held


def known_worth(row, known):
    """The number that a row surely lays, None where it isn't known or the row may be a fault."""
    if row[0] == "put":
        return row[2]
    if row[0] == "copy":
        return known.get(row[2])
    if row[0] not in SIGNED:
        return None
    first, second = known.get(row[2]), known.get(row[3])
    if first is None or second is None or trouble_of(row[0], first, second) != "":
        return None
    return done(row[0], first, second)


def in_both(known, others):
    """What is known both here and there; all of there where nothing came here yet."""
    if known is None:
        return others
    return {cell: worth for cell, worth in known.items() if others.get(cell) == worth}


def wanted_behind(rows, kept):
    """The cells that may be read behind each row; wherever a row of text begins, those kept are."""
    labels = places_of_labels(rows)
    ahead = [{} for _ in rows]
    behind = [{} for _ in rows]
    changed = True
    while changed:
        changed = False
        for at in reversed(range(len(rows))):
            behind[at] = {cell: True for to in rows_behind(rows, labels, at) for cell in ahead[to]}
            wanted = wanted_ahead(rows[at], behind[at], kept)
            if len(wanted) != len(ahead[at]):
                ahead[at] = wanted
                changed = True
    return behind


def wanted_ahead(row, behind, kept):
    """The cells that may be read from a row on, by those that may be behind it."""
    laid = cell_laid(row)
    wanted = {cell: True for cell in behind if cell != laid}
    for cell in cells_read(row):
        wanted[cell] = True
    if row[0] == "begin":
        for cell in kept:
            wanted[cell] = True
    return wanted

"""Rows of cells made fewer."""

from wholetongue.flow import cell_laid, known_ahead, known_worth, places_of_labels, wanted_behind

# Rows that lay a cell and do nothing else, not even a fault.
QUIET = ("put", "copy", "fetch", "less", "same")


def lean_of(one):
    """What middle_of tells of a def, with rows made fewer."""
    name, parts, kind, out, rows, names = one
    kept = list(range(len(parts))) + [cell for _, _, cell, _, _ in names]
    before = ()
    while rows != before:
        before = rows
        rows = with_known(rows)
        rows = with_wanted(rows, kept)
        rows = with_short_ways(rows)
        rows = with_ways(rows)
    return name, parts, kind, out, rows, names


def with_known(rows):
    """Without rows that no run comes to, and with what is surely known put in place."""
    found = []
    for row, known in zip(rows, known_ahead(rows)):
        if known is not None:
            found.extend(simpler(row, known))
    return tuple(found)


def simpler(row, known):
    """The row that does the same, or none where nothing is to be done."""
    if row[0] == "unless" and row[1] in known:
        return simpler_unless(row, known[row[1]])
    if row[0] == "copy" and row[1] == row[2]:
        return ()
    cell = cell_laid(row)
    worth = known_worth(row, known)
    if worth is None:
        return (row,)
    if known.get(cell) == worth:
        return ()
    return (("put", cell, worth, row[-1]),)


def simpler_unless(row, worth):
    if worth == 0:
        return (("go", row[2], row[3]),)
    return ()


def with_wanted(rows, kept):
    """Without rows that do nothing but lay a cell that isn't read."""
    found = []
    for row, wanted in zip(rows, wanted_behind(rows, kept)):
        if row[0] not in QUIET or row[1] in wanted:
            found.append(row)
    return tuple(found)


def with_short_ways(rows):
    """With each go by a label at which it ends, not by others on the way."""
    labels = places_of_labels(rows)
    found = []
    for row in rows:
        if row[0] == "go":
            found.append(("go", last_label(rows, labels, row[1]), row[2]))
        else:
            found.append(row)
    return tuple(found)


def last_label(rows, labels, first):
    """The label at which a go by this one ends; this one where it goes round for ever."""
    passed = []
    label = first
    while label not in passed:
        passed.append(label)
        row = rows[behind_labels(rows, labels[label])]
        if row[0] != "go":
            return shared_label(rows, labels[label])
        label = row[1]
    return first


def shared_label(rows, at):
    """Of labels side by side the one by which all go: one that an unless needs, if there is one."""
    first = at
    while first > 0 and rows[first - 1][0] == "label":
        first -= 1
    side_by_side = [row[1] for row in rows[first:behind_labels(rows, at)]]
    needed = [row[2] for row in rows if row[0] == "unless" and row[2] in side_by_side]
    return (needed + side_by_side)[0]


def behind_labels(rows, at):
    """The number of the first row from this one on that is no label."""
    while at < len(rows) and rows[at][0] == "label":
        at += 1
    return at


def with_ways(rows):
    """Without ways to a label right behind, and without labels to which no way leads."""
    ways = [row for at, row in enumerate(rows) if not leads_right_behind(rows, at)]
    goals = [goal_of(row) for row in ways]
    return tuple([row for row in ways if row[0] != "label" or row[1] in goals])


def leads_right_behind(rows, at):
    """Whether a row is a go or an unless by a label right behind it."""
    goal = goal_of(rows[at])
    if goal is None:
        return False
    behind = rows[at + 1:behind_labels(rows, at + 1)]
    return goal in [row[1] for row in behind]


def goal_of(row):
    """The label by which a row goes, None for a row that goes nowhere."""
    if row[0] == "go":
        return row[1]
    if row[0] == "unless":
        return row[2]
    return None

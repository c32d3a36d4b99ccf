"""What stands within what in a tree."""


def inner_of(worth):
    """The E that stand directly within an E, from the left."""
    if worth[0] == "call":
        return worth[4]
    if worth[0] in ("num", "truth", "name"):
        return ()
    return worth[2:]


def all_within(worth):
    """An E and all E within it, each ahead of those within it, from the left."""
    found = [worth]
    for inner in inner_of(worth):
        found.extend(all_within(inner))
    return found


def named_in(worth):
    """The names and calls in an E, in the text's turn."""
    return [one for one in all_within(worth) if one[0] in ("name", "call")]


def worth_of(row):
    """The E of a row within a def, None for a give without one."""
    if row[0] in ("let", "set"):
        return row[3]
    return row[2]


def blocks_of(row):
    """The blocks of rows that stand directly within a row."""
    if row[0] == "if":
        return row[3], row[4]
    if row[0] == "while":
        return (row[3],)
    return ()


def all_rows(rows):
    """Rows and all rows within them, in the text's turn."""
    found = []
    for row in rows:
        found.append(row)
        for block in blocks_of(row):
            found.extend(all_rows(block))
    return found


def worths_in(told):
    """All E that stand within no other one, in the text's turn."""
    worths = []
    for one in told:
        if one[0] == "def":
            worths.extend([worth_of(row) for row in all_rows(one[6]) if worth_of(row) is not None])
        else:
            worths.append(one[4])
    return worths


def is_place(thing):
    """Whether a tuple of a tree is a place: no other one begins by a number."""
    return len(thing) == 2 and isinstance(thing[0], int)

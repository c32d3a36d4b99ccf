"""What holds of all rows of cells, and houses made ready to be run by them."""

from wholetongue.middle import middle_of
from wholetongue.worths import worths_of

LENGTHS = {
    "begin": 2, "put": 4, "copy": 4, "add": 5, "take": 5, "times": 5, "over": 5, "rest": 5, "less": 5,
    "same": 5, "fetch": 5, "lay": 4, "label": 3, "go": 3, "unless": 4, "call": 6, "say": 4, "give": 3,
    "nothing": 2,
}


def defs_of(house):
    """What middle_of tells, by (file, n)."""
    return {(file, one[0]): one for file in house for one in middle_of(house, file)}


def keeps_of(house):
    """The worths that keeps have at first, by (file, n)."""
    return {(file, one[0]): one[2] for file in house for one in worths_of(house, file)[1]}


def check_rows(test, rows):
    """What [12] tells of rows alone."""
    test.assertIs(type(rows), tuple)
    for row in rows:
        test.assertIs(type(row), tuple)
        test.assertEqual(len(row), LENGTHS[row[0]], row)
        test.assertEqual([type(row[-1]), len(row[-1])], [tuple, 2])
        for cell in cells_of(row):
            test.assertIs(type(cell), int)
            test.assertTrue(0 <= cell < 1000)
    labels = [row[1] for row in rows if row[0] == "label"]
    test.assertEqual(len(set(labels)), len(labels))
    for row in rows:
        if row[0] in ("go", "unless"):
            test.assertIn(row[-2], labels)


def cells_of(row):
    what = row[0]
    if what in ("put", "fetch", "unless"):
        return [row[1]]
    if what in ("lay", "say"):
        return [row[2]]
    if what == "give":
        return [cell for cell in row[1:2] if cell is not None]
    if what == "call":
        return [cell for cell in (row[1],) + row[4] if cell is not None]
    if what in ("begin", "label", "go", "nothing"):
        return []
    return list(row[1:-1])


def check_no_cell_unlaid(test, many, rows):
    """No way through the rows reads a cell that wasn't laid; the first cells hold the parts."""
    labels = {row[1]: at for at, row in enumerate(rows) if row[0] == "label"}
    laid = {0: set(range(many))}
    left = [0]
    while left:
        at = left.pop()
        row = rows[at]
        cells = cells_of(row)
        to = None
        if row[0] not in ("lay", "say", "unless", "give") and row[0] in LENGTHS and cells:
            if not (row[0] == "call" and row[1] is None):
                to = cells.pop(0)
        for cell in cells:
            test.assertIn(cell, laid[at], (at, row))
        behind = laid[at] | ({to} if to is not None else set())
        goals = {"go": [labels.get(row[1])], "give": [], "nothing": []}.get(row[0], [at + 1])
        if row[0] == "unless":
            goals = [at + 1, labels[row[2]]]
        for goal in goals:
            known = laid.get(goal)
            if known is None or not known <= behind:
                laid[goal] = behind if known is None else known & behind
                left.append(goal)

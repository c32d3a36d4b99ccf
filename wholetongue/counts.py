"""Counts of the rows of text that begin while an image is run."""

from wholetongue.codes import rows_begun
from wholetongue.engine import Machine
from wholetongue.run import ROWS


def traced(image, file, name, *, most=ROWS):
    """(file, def, row, how many calls are under way) of each row of text that begins, in turn."""
    machine = Machine(image, file, name, most)
    told = []
    while machine.ended is None:
        one = machine.defs[machine.number]
        told.append((one[0], one[1], machine.row_ahead()[1], len(machine.callers) + 1))
        machine.do_row()
    return told


def counted(image, file, name, *, most=ROWS):
    """(file, row, how often it began) of all rows of text that may begin, rising."""
    told = traced(image, file, name, most=most)
    often = {(of, row): 0 for _, of, row in rows_begun(image)}
    for of, _, row, _ in told:
        often[of, row] += 1
    return sorted([(of, row, many) for (of, row), many in often.items()])


def called(image, file, name, *, most=ROWS):
    """(file, def, how often a row of it began, the most calls under way then) of all defs, in turn."""
    told = traced(image, file, name, most=most)
    found = []
    for of, one in [told_of[:2] for told_of in image[2]]:
        depths = [depth for row_file, row_def, _, depth in told if (row_file, row_def) == (of, one)]
        found.append((of, one, len(depths), max(depths, default=0)))
    return found


def judged(image, file, name, told, *, most=ROWS):
    """The number of the first of these rows that traced tells otherwise, None if it tells just these."""
    known = traced(image, file, name, most=most)
    for number, (row, other) in enumerate(zip(told, known)):
        if row != other:
            return number
    if len(told) == len(known):
        return None
    return min(len(told), len(known))

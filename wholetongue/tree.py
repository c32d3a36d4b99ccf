"""The tree of a text."""

from wholetongue.errors import Fault
from wholetongue.expression import read_call, read_expression
from wholetongue.reading import Page

KINDS = ("num", "yes")
MOST_PARTS = 6
MOST_BLOCKS = 6


def tree_of(text):
    """(uses, told) of a file's text."""
    page = Page(text)
    uses = read_uses(page)
    told = []
    while page.word() != "":
        told.append(read_told(page))
    return uses, tuple(told)


def worth_tree(text):
    """The E that is a text's only row with words."""
    page = Page(text)
    if page.word() == "":
        raise Fault("tree", "", (1, 1), "tree")
    worth = read_worth(page.take_row())
    if page.word() != "":
        page.take_row().refuse()
    return worth


def read_uses(page):
    """The files of all rows that begin with use."""
    uses = []
    while page.word() == "use":
        row = page.take_row()
        row.need("use")
        uses.append(read_use(row))
        while row.word() == ",":
            row.need(",")
            uses.append(read_use(row))
        row.finish()
    return tuple(uses)


def read_use(row):
    file, place = row.need_name()
    return place, file


def read_told(page):
    """A const, a keep or a def."""
    row = page.take_row()
    out = row.word() == "out"
    if out:
        row.need("out")
    if row.word() == "def":
        return read_def(page, row, out)
    if row.word() not in ("const", "keep"):
        row.refuse()
    what, _ = row.take()
    place, name, worth = read_named_worth(row)
    return (what, place, out, name, worth)


def read_named_worth(row):
    """What is left of a row when `n = E` is: the place of n, n, and E."""
    name, place = row.need_name()
    row.need("=")
    return place, name, read_worth(row)


def read_worth(row):
    """What is left of a row when E is."""
    worth = read_expression(row, 0)
    row.finish()
    return worth


def read_def(page, row, out):
    row.need("def")
    name, place = row.need_name()
    parts = read_parts(row)
    kind = ""
    if row.word() in KINDS:
        kind, _ = row.take()
    row.finish()
    rows = read_rows(page, 0)
    return ("def", place, out, name, parts, kind, rows, read_end(page))


def read_parts(row):
    row.need("(")
    parts = []
    if row.word() != ")":
        parts.append(read_part(row))
        while row.word() == "," and len(parts) < MOST_PARTS:
            row.need(",")
            parts.append(read_part(row))
    row.need(")")
    return tuple(parts)


def read_part(row):
    name, place = row.need_name()
    if row.word() not in KINDS:
        row.refuse()
    kind, _ = row.take()
    return place, name, kind


def read_rows(page, depth):
    """All rows up to an end or else, within so many ifs and whiles."""
    rows = []
    while page.word() not in ("end", "else"):
        rows.append(read_row(page, depth))
    return tuple(rows)


def read_row(page, depth):
    """A row within a def, with those within it."""
    row = page.take_row()
    if row.kind() == "name":
        place, name, worth = read_named_worth(row)
        return ("set", place, name, worth)
    if row.word() in ("if", "while"):
        return read_block(page, row, depth)
    if row.word() not in ("let", "give", "say", "do"):
        row.refuse()
    word, place = row.take()
    return read_plain_row(row, word, place)


def read_plain_row(row, word, place):
    """What is left of a row within which no rows stand."""
    if word == "let":
        place, name, worth = read_named_worth(row)
        return ("let", place, name, worth)
    if word == "do":
        call = read_call(row)
        row.finish()
        return ("do", place, call)
    if word == "give" and row.done():
        return ("give", place, None)
    return (word, place, read_worth(row))


def read_block(page, row, depth):
    """An if or a while with the rows within it."""
    if depth == MOST_BLOCKS:
        row.refuse()
    word, place = row.take()
    worth = read_worth(row)
    rows = read_rows(page, depth + 1)
    if word == "while":
        read_end(page)
        return ("while", place, worth, rows)
    others = ()
    if page.word() == "else":
        read_alone(page, "else")
        others = read_rows(page, depth + 1)
    read_end(page)
    return ("if", place, worth, rows, others)


def read_end(page):
    return read_alone(page, "end")


def read_alone(page, word):
    """A row that has this word alone: its place."""
    row = page.take_row()
    place = row.need(word)
    row.finish()
    return place

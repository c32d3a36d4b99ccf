"""The text of a tree, written one way."""

# The looser an E, the lower; one that is looser than may stand somewhere has brackets there.
LOOSE = {
    "or": 1, "and": 2, "not": 3, "=": 4, "<>": 4, "<": 4, "<=": 4,
    "+": 5, "-": 5, "*": 6, "/": 6, "mod": 6, "neg": 7,
}
LOOSEST = 1


def text_of(tree):
    """The text of a tree, whose places aren't looked at."""
    uses, told = tree
    rows = []
    if uses != ():
        rows.append("use " + ", ".join([file for _, file in uses]))
    for one in told:
        rows.extend(told_rows(one))
    return "\n".join(rows)


def told_rows(one):
    """The rows of a const, a keep or a def."""
    what, _, out, name = one[:4]
    if what == "def":
        rows = def_rows(one)
    else:
        rows = [what + " " + name + " = " + whole_text(one[4])]
    if out:
        rows[0] = "out " + rows[0]
    return rows


def def_rows(one):
    _, _, _, name, parts, kind, rows, _ = one
    first = "def " + name + "(" + ", ".join([part + " " + of for _, part, of in parts]) + ")"
    if kind != "":
        first = first + " " + kind
    return [first] + deeper_rows(rows) + ["end"]


def deeper_rows(rows):
    """Rows within something, two blanks further in than what they stand in."""
    written = []
    for row in rows:
        written.extend(["  " + text for text in row_texts(row)])
    return written


def row_texts(row):
    """A row within a def, with those within it."""
    what = row[0]
    if what == "let":
        return ["let " + row[2] + " = " + whole_text(row[3])]
    if what == "set":
        return [row[2] + " = " + whole_text(row[3])]
    if what == "give" and row[2] is None:
        return ["give"]
    first = what + " " + whole_text(row[2])
    if what == "while":
        return [first] + deeper_rows(row[3]) + ["end"]
    if what == "if":
        return [first] + deeper_rows(row[3]) + else_rows(row[4]) + ["end"]
    return [first]


def else_rows(rows):
    if rows == ():
        return []
    return ["else"] + deeper_rows(rows)


def whole_text(worth):
    """An E that may be as loose as can be."""
    return worth_text(worth, LOOSEST)


def worth_text(worth, least):
    """An E, in brackets if it's looser than may stand there."""
    what = worth[0]
    if what not in LOOSE:
        return single_text(worth)
    if LOOSE[what] < least:
        return "(" + whole_text(worth) + ")"
    if what == "neg":
        return "-" + worth_text(worth[2], LOOSE[what])
    if what == "not":
        return "not " + worth_text(worth[2], LOOSE[what])
    return two_text(worth, LOOSE[what])


def two_text(worth, loose):
    sign, _, first, second = worth
    least = loose
    if loose == LOOSE["="]:
        # Just one of these signs can stand without brackets.
        least = loose + 1
    return worth_text(first, least) + " " + sign + " " + worth_text(second, loose + 1)


def single_text(worth):
    """A number, a truth, a name or a call."""
    what = worth[0]
    if what == "num":
        return str(worth[2])
    if what == "truth":
        return "yes" if worth[2] else "no"
    path = worth[3]
    if worth[2] != "":
        path = worth[2] + "." + worth[3]
    if what == "name":
        return path
    return path + "(" + ", ".join([whole_text(given) for given in worth[4]]) + ")"

"""The trees of E, each sign looser than those of the functions below it."""

MOST_WITHIN = 8


def read_expression(row, depth):
    """An E, within so many brackets, nots and -'s."""
    return from_left(row, depth, ("or",), read_both)


def from_left(row, depth, signs, read_tighter):
    """Parts with these signs between, the left ones bound first."""
    tree = read_tighter(row, depth)
    while row.word() in signs:
        sign, place = row.take()
        tree = (sign, place, tree, read_tighter(row, depth))
    return tree


def read_both(row, depth):
    return from_left(row, depth, ("and",), read_denied)


def read_denied(row, depth):
    if row.word() != "not":
        return read_compared(row, depth)
    inner = within(row, depth)
    place = row.need("not")
    return ("not", place, read_denied(row, inner))


def read_compared(row, depth):
    first = read_sum(row, depth)
    if row.word() not in ("=", "<>", "<", "<="):
        return first
    sign, place = row.take()
    return (sign, place, first, read_sum(row, depth))


def read_sum(row, depth):
    return from_left(row, depth, ("+", "-"), read_product)


def read_product(row, depth):
    return from_left(row, depth, ("*", "/", "mod"), read_negated)


def read_negated(row, depth):
    if row.word() != "-":
        return read_single(row, depth)
    inner = within(row, depth)
    place = row.need("-")
    return ("neg", place, read_negated(row, inner))


def read_single(row, depth):
    """A number, a truth, a name, a call, or an E in brackets."""
    if row.kind() == "num":
        word, place = row.take()
        return ("num", place, int(word))
    if row.kind() == "name":
        return read_named(row, depth)
    if row.word() in ("yes", "no"):
        word, place = row.take()
        return ("truth", place, word == "yes")
    return read_bracket(row, depth)


def read_bracket(row, depth):
    inner = within(row, depth)
    row.need("(")
    tree = read_expression(row, inner)
    row.need(")")
    return tree


def read_named(row, depth):
    """A name or a call."""
    place, file, name = read_path(row)
    if row.word() != "(":
        return ("name", place, file, name)
    return ("call", place, file, name, read_given(row, depth))


def read_call(row):
    """A call that is no part of an E."""
    place, file, name = read_path(row)
    return ("call", place, file, name, read_given(row, 0))


def read_path(row):
    """n or f.n: the place of the first word, f or "", and n."""
    first, place = row.need_name()
    if row.word() != ".":
        return place, "", first
    row.need(".")
    name, _ = row.need_name()
    return place, first, name


def read_given(row, depth):
    """The brackets of a call: what it gives for the parts."""
    inner = within(row, depth)
    row.need("(")
    given = []
    if row.word() != ")":
        given.append(read_expression(row, inner))
        while row.word() == ",":
            row.need(",")
            given.append(read_expression(row, inner))
    row.need(")")
    return tuple(given)


def within(row, depth):
    """The depth within the word that is read next, which is refused where it is one too deep."""
    if depth == MOST_WITHIN:
        row.refuse()
    return depth + 1

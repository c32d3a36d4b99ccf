"""What several tests use."""

from wholetongue.errors import Fault


def fault_of(function, *handed):
    """The four fields of the Fault by which this is refused, None if it isn't."""
    try:
        function(*handed)
    except Fault as fault:
        return fault.stage, fault.file, fault.place, fault.why
    return None


def refusal_of(function, *handed):
    """The class of what this is refused by, None if it isn't."""
    try:
        function(*handed)
    except Exception as refusal:
        return type(refusal)
    return None


def told_twice(test, function, *handed):
    """What a function tells; that it tells the same again is held against what was told, changed."""
    before = repr(handed)
    first = function(*handed)
    known = repr(first)
    for thing in (first if type(first) is tuple else (first,)):
        if type(thing) in (list, dict):
            thing.clear()
    second = function(*handed)
    test.assertEqual(repr(second), known)
    test.assertEqual(repr(handed), before)
    return second


def is_place(thing):
    return type(thing) is tuple and len(thing) == 2 and all(type(part) is int for part in thing)


def bare(tree):
    """A tree without its places."""
    if type(tree) is not tuple:
        return tree
    return tuple(bare(thing) for thing in tree if not is_place(thing))


def places(tree):
    """All places of a tree, in its turn."""
    if type(tree) is not tuple:
        return []
    if is_place(tree):
        return [tree]
    return [place for thing in tree for place in places(thing)]


def short(tree):
    """An E with brackets around all that has signs, numbers and names as they are written."""
    what = tree[0]
    if what == "num":
        return str(tree[2])
    if what == "truth":
        return "yes" if tree[2] else "no"
    if what in ("name", "call"):
        path = (tree[2] + "." if tree[2] else "") + tree[3]
        if what == "name":
            return path
        return path + "(" + ", ".join(short(one) for one in tree[4]) + ")"
    if what == "not":
        return "(not " + short(tree[2]) + ")"
    if what == "neg":
        return "(-" + short(tree[2]) + ")"
    return "(" + short(tree[2]) + " " + what + " " + short(tree[3]) + ")"

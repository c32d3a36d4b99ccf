"""What an E comes to at a moment, worked out plainly, and E made by chance for it."""

from doing import Stop, by_kind, checked
from wholetongue.names import uses_of
from wholetongue.tree import worth_tree
from wholetongue.worths import worths_of

NUMBERS = ("num", "neg", "+", "-", "*", "/", "mod")


class Files:
    """What each file of a house may name of itself and of others, but for worths of keeps."""

    def __init__(self, house):
        self.may = {}
        for file in house:
            may = {}
            for home, ahead in [(file, "")] + [(used, used + ".") for used in uses_of(house, file)]:
                consts, keeps = worths_of(house, home)
                for name, kind, worth, out in consts:
                    if out or ahead == "":
                        may[ahead + name] = (kind, worth)
                for name, kind, _, out in keeps:
                    if out or ahead == "":
                        may[ahead + name] = (home, name)
            self.may[file] = may

    def named_at(self, moment, depth):
        """(kind, worth) of all that can be named there, by n or f.n as they are written."""
        keeps = {(file, name): (kind, int(worth)) for file, name, kind, worth in moment.keeps}
        may = self.may[moment.frames[depth][0]]
        named = {name: keeps.get(thing, thing) for name, thing in may.items()}
        for name, kind, worth in moment.seen(depth):
            named[name] = (kind, int(worth))
        return named


def plain_answer(named, text):
    """What ask tells, where no part of it is refused."""
    tree = worth_tree(text)
    try:
        worth = plain_worth(named, tree)
    except Stop as stop:
        return ("fault", stop.told[1], stop.told[3][1])
    kind = plain_kind(named, tree)
    return kind, by_kind(kind, worth)


def plain_kind(named, tree):
    if tree[0] == "name":
        return named[(tree[2] + "." if tree[2] else "") + tree[3]][0]
    return "num" if tree[0] in NUMBERS else "yes"


def plain_worth(named, tree):
    what = tree[0]
    if what in ("num", "truth"):
        return int(tree[2])
    if what == "name":
        return named[(tree[2] + "." if tree[2] else "") + tree[3]][1]
    first = plain_worth(named, tree[2])
    if what == "neg":
        return -first
    if what == "not":
        return 1 - first
    if what == "or":
        return 1 if first else plain_worth(named, tree[3])
    if what == "and":
        return plain_worth(named, tree[3]) if first else 0
    return checked(what, first, plain_worth(named, tree[3]), "", tree[1])


def made_text(chance, named, kind, depth=3):
    """An E of a kind, of what can be named."""
    if depth == 0 or chance.random() < 0.25:
        names = [name for name, (of, _) in sorted(named.items()) if of == kind]
        if names and chance.random() < 0.8:
            return chance.choice(names)
        return str(chance.randint(0, 4)) if kind == "num" else chance.choice(("yes", "no"))
    signs = ("+", "-", "*", "/", "mod", "neg") if kind == "num" else ("<", "<=", "=", "<>", "and", "or", "not")
    sign = chance.choice(signs)
    within = "yes" if sign in ("and", "or", "not") else "num"
    first, second = [made_text(chance, named, within, depth - 1) for _ in range(2)]
    if sign in ("neg", "not"):
        return ("-" if sign == "neg" else "not ") + "(" + first + ")"
    return "(" + first + " " + sign + " " + second + ")"

"""The files of a house: whether it is one, its trees, and the turn in which files are looked over."""

from wholetongue.errors import BadHouse, Fault
from wholetongue.tree import tree_of
from wholetongue.words import are_letters

MOST_FILES = 8
MOST_ROWS = 60

# A sign that no text has: `mod` stands for it.
PERCENT = 37


def trees_of(house):
    """The trees of a house's texts by their files, which rise by their names."""
    if not is_house(house):
        raise BadHouse("this is no house")
    return {file: tree_in(file, house[file]) for file in sorted(house)}


def is_house(house):
    if not 1 <= len(house) <= MOST_FILES:
        return False
    return all([are_letters(file) and is_text(text) for file, text in house.items()])


def is_text(text):
    if text.count("\n") >= MOST_ROWS:
        return False
    return all([is_sign(sign) for sign in text])


def is_sign(sign):
    return sign == "\n" or " " <= sign <= "~" and ord(sign) != PERCENT


def tree_in(file, text):
    """The tree of a file's text; its fault stands in that file."""
    try:
        return tree_of(text)
    except Fault as fault:
        raise Fault(fault.stage, file, fault.place, fault.why) from None


def of_file(by_file, file):
    """What stands there for a file, which the house must have."""
    if file not in by_file:
        raise BadHouse("the house has no such file")
    return by_file[file]


def used_in(tree):
    """The files that a tree uses, in turn."""
    return [file for _, file in tree[0]]


def turn_of(trees):
    """All files, each behind those it uses, of several the least name first."""
    turn = []
    left = sorted(trees)
    while left:
        ready = [file for file in left if all([used in turn for used in used_in(trees[file])])]
        turn.append(ready[0])
        left.remove(ready[0])
    return turn

"""Where a thing is named in a house, and other names for it."""

from wholetongue.errors import BadName, Fault, NoName, Taken
from wholetongue.files import of_file, trees_of
from wholetongue.naming import names_by_file
from wholetongue.words import is_name, words_of


def places_of(house, file, place):
    """(file, place) of all names of the thing that is named at a place."""
    names = names_by_file(trees_of(house))
    return places_in(names, thing_at(names, file, place))


def thing_at(names, file, place):
    """The thing that is named at a place, by the names of all files."""
    for other, _, thing in of_file(names, file):
        if other == place:
            return thing
    raise NoName("no name stands there")


def places_in(names, thing):
    """(file, place) of all names of a thing, files rising, in the text's turn."""
    places = []
    for file in sorted(names):
        places.extend([(file, place) for place, _, other in names[file] if other == thing])
    return places


def renamed(house, file, place, new):
    """The house's texts, in which all names of the thing at a place are another one."""
    names = names_by_file(trees_of(house))
    thing = thing_at(names, file, place)
    if not is_name(new):
        raise BadName("this is no name")
    texts = dict(house)
    for one, spot in reversed(places_in(names, thing)):
        # From behind, so that the places ahead stay where they are.
        texts[one] = with_name(texts[one], spot, new)
    if is_taken(texts):
        raise Taken("this name is taken")
    return texts


def with_name(text, place, new):
    """A text with another name at a place, of f.n there with another n."""
    words = words_of(text)
    at = [spot for _, _, spot in words].index(place)
    if words[at + 1:] and words[at + 1][1] == ".":
        at += 2
    _, old, (row, column) = words[at]
    rows = text.split("\n")
    told = rows[row - 1]
    rows[row - 1] = told[:column - 1] + new + told[column - 1 + len(old):]
    return "\n".join(rows)


def is_taken(texts):
    """Whether texts in which a thing has a new name have a fault.

    Wherever a thing can be named, no other one has its name, or that is a fault. So where there is
    none, each name means what it meant.
    """
    try:
        names_by_file(trees_of(texts))
    except Fault:
        return True
    return False

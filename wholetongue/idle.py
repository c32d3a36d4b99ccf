"""What stands in a file for nothing."""

from wholetongue.looking import looked_at
from wholetongue.walking import all_rows, blocks_of, named_in, worths_in


def idle_of(house, file):
    """(place, why) of all that stands in a file for nothing, rising."""
    looked = looked_at(house, file)
    idle = idle_names(looked)
    for one in looked.told:
        if one[0] == "def":
            idle.extend(idle_rows(looked, one[6]))
    return sorted(idle)


def idle_names(looked):
    """The names that are told and named in no E; "unread" are those that are set at least."""
    read = {looked.meant[one[1]]: True for worth in worths_in(looked.told) for one in named_in(worth)}
    laid = {looked.meant[place]: True for place in places_set(looked.told)}
    idle = []
    for place in places_told(looked.told):
        thing = looked.meant[place]
        if thing not in read and thing in laid:
            idle.append((place, "unread"))
        elif thing not in read:
            idle.append((place, "unused"))
    return idle


def places_set(told):
    """The places of all names that are set."""
    return [row[1] for one in told if one[0] == "def" for row in all_rows(one[6]) if row[0] == "set"]


def places_told(told):
    """The places of all names that are told for their own file alone."""
    places = []
    for one in told:
        if not one[2]:
            places.append(one[1])
        if one[0] == "def":
            places.extend([place for place, _, _ in one[4]])
            places.extend([row[1] for row in all_rows(one[6]) if row[0] == "let"])
    return places


def idle_rows(looked, rows):
    """Of a def's rows those that stand there for nothing."""
    idle = first_behind(rows)
    for row in all_rows(rows):
        what, place = row[0], row[1]
        if what in ("if", "while") and is_known(looked, row[2]):
            idle.append((place, "known"))
        if what == "if" and row[3] == () and row[4] == ():
            idle.append((place, "idle"))
        if what == "set" and is_itself(looked, row):
            idle.append((place, "idle"))
        for block in blocks_of(row):
            idle.extend(first_behind(block))
    return idle


def first_behind(rows):
    """The first of these rows that stands behind one that ends the call for sure."""
    for row, behind in zip(rows, rows[1:]):
        if is_ending(row):
            return [(behind[1], "behind")]
    return []


def is_ending(row):
    """Whether a row is a give, or an if both of whose sides have one like this."""
    if row[0] == "if":
        return all([any([is_ending(inner) for inner in block]) for block in blocks_of(row)])
    return row[0] == "give"


def is_known(looked, worth):
    """Whether an E hangs on numbers, truths and consts alone."""
    return all([looked.meant[one[1]][0] == "const" for one in named_in(worth)])


def is_itself(looked, row):
    """Whether a set's E is the name that is set, alone."""
    worth = row[3]
    return worth[0] == "name" and looked.meant[worth[1]] == looked.meant[row[1]]

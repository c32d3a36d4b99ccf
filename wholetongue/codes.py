"""The words of a machine's rows, the numbers by which they stand in an image, and what they have."""

# A code's number is the place of its word here; no code is 0.
WORDS = (
    "", "row", "push", "load", "store", "fetch", "lay", "add", "take", "times", "over", "rest", "less", "same",
    "jump", "unless", "call", "give", "say", "nothing",
)
# How many numbers stand behind a code, for each word of WORDS.
HAS = (0, 0, 1, 1, 1, 1, 1, 0, 0, 0, 0, 0, 0, 0, 1, 1, 3, 1, 1, 0)

# What a say has, by this number.
KINDS = ("num", "yes")


ROW = 1
CALL_SIZE = 4


def size_of(word):
    """How many numbers a word's code and what it has come to."""
    return 1 + HAS[WORDS.index(word)]


def rows_begun(image):
    """(at, file, row) of each code of an image by which a row of text begins."""
    code, places = image[:2]
    return [(at, file, place[0]) for at, file, place in places if code[at] == ROW]

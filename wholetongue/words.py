"""The words of a text."""

from wholetongue.errors import Fault

LETTERS = "abcdefghijklmnopqrstuvwxyz"
FIGURES = "0123456789"
LONGEST = 6

# The longer signs stand ahead: the first one that fits is the longest that can be.
SIGNS = ("<>", "<=", "(", ")", ",", ".", "=", "<", "+", "-", "*", "/")

OWN_WORDS = (
    "use", "const", "keep", "out", "def", "num", "yes", "no", "let", "if", "else",
    "while", "end", "give", "say", "do", "or", "and", "not", "mod",
)


def is_name(word):
    """Whether a text is a name and nothing else."""
    return are_letters(word) and word not in OWN_WORDS


def are_letters(word):
    """Whether a text is as many letters as a name has, be it an own word, too."""
    return 1 <= len(word) <= LONGEST and run_at(word, 0, LETTERS) == word


def words_of(text):
    """(kind, word, place) of all words of a text."""
    words = []
    for number, row in enumerate(text.split("\n"), start=1):
        words.extend(words_in(row, number))
    return words


def words_in(row, number):
    """The words of one row, which has this number."""
    told = row.partition("#")[0]
    words = []
    at = 0
    while at < len(told):
        if told[at] == " ":
            at += 1
        else:
            word = word_at(told, at)
            kind = kind_of(word)
            place = (number, at + 1)
            if kind == "":
                raise Fault("words", "", place, "word")
            words.append((kind, word, place))
            at += len(word)
    return words


def word_at(row, at):
    """The longest word that begins there, even one that is too long; "" where none begins."""
    if row[at] in LETTERS:
        return run_at(row, at, LETTERS)
    if row[at] in FIGURES:
        return run_at(row, at, FIGURES)
    for sign in SIGNS:
        if row[at:at + len(sign)] == sign:
            return sign
    return ""


def run_at(row, at, characters):
    """All that stand side by side there and are of these characters."""
    end = at
    while end < len(row) and row[end] in characters:
        end += 1
    return row[at:end]


def kind_of(word):
    """The kind of what word_at tells; "" for what is no word."""
    if word in OWN_WORDS:
        return "own"
    if word in SIGNS:
        return "sign"
    if word == "" or len(word) > LONGEST:
        return ""
    if word[0] in LETTERS:
        return "name"
    if word[0] == "0" and len(word) > 1:
        return ""
    return "num"

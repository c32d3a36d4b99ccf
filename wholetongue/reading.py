"""Rows of words, read one behind the other, and the faults of what can't stand there."""

from wholetongue.errors import Fault
from wholetongue.words import words_of

MOST_WORDS = 60


class Row:
    """One row with words, read from left to right."""

    def __init__(self, words):
        self.words = words
        self.at = 0

    def kind(self):
        """The kind of the word that is read next, "" behind the last one."""
        if self.done():
            return ""
        return self.words[self.at][0]

    def word(self):
        """The word that is read next, "" behind the last one."""
        if self.done():
            return ""
        return self.words[self.at][1]

    def done(self):
        """Whether all words are read."""
        return self.at == len(self.words)

    def spot(self):
        """The place of the word that is read next, or the one behind the last word."""
        if not self.done():
            return self.words[self.at][2]
        _, word, (number, column) = self.words[-1]
        return number, column + len(word)

    def refuse(self):
        """Refuse the word that is read next, or that it lacks."""
        raise Fault("tree", "", self.spot(), "tree")

    def take(self):
        """Read the next word: it and its place."""
        _, word, place = self.words[self.at]
        self.at += 1
        return word, place

    def need(self, word):
        """Read the next word, which must be this one: its place."""
        if self.word() != word:
            self.refuse()
        return self.take()[1]

    def need_name(self):
        """Read the next word, which must be a name: it and its place."""
        if self.kind() != "name":
            self.refuse()
        return self.take()

    def finish(self):
        """Refuse a word that stands behind all that is read."""
        if not self.done():
            self.refuse()


class Page:
    """The rows with words of a text, read from above."""

    def __init__(self, text):
        self.rows = rows_of(text)
        self.next_row = 0
        self.behind = (text.count("\n") + 2, 1)

    def word(self):
        """The first word of the row that is read next, "" behind the last row."""
        if self.next_row == len(self.rows):
            return ""
        return self.rows[self.next_row].word()

    def take_row(self):
        """Begin the next row; where there is none, an end lacks."""
        if self.next_row == len(self.rows):
            raise Fault("tree", "", self.behind, "tree")
        row = self.rows[self.next_row]
        self.next_row += 1
        return row


def rows_of(text):
    """A Row for each row of a text that has words."""
    words_by_row = {}
    for word in words_of(text):
        words_by_row.setdefault(word[2][0], []).append(word)
    return [Row(cut(words)) for words in words_by_row.values()]


def cut(words):
    """A row's words, but of too many the first alone, and as a word that fits nowhere."""
    if len(words) <= MOST_WORDS:
        return words
    place = words[MOST_WORDS][2]
    return words[:MOST_WORDS] + [("", "", place)]

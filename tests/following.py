"""A plain reading of texts, row of text by row of text: all that can be seen at each of them."""

from doing import Reader, Stop, Told, by_kind


class Moment:
    """What there is where a row of text begins: calls under way (the innermost first), keeps, what was said."""

    def __init__(self, frames, keeps, said):
        self.frames = frames
        self.keeps = keeps
        self.said = said

    def where(self):
        return self.frames[0][0], self.frames[0][2]

    def calls(self):
        """The calls under way as (file, def, row), the innermost first."""
        return [frame[:3] for frame in self.frames]

    def seen(self, depth):
        return self.frames[depth][3]


class Follower(Reader):
    def __init__(self, house, most):
        Reader.__init__(self, house, Told(most))
        self.stack = []
        self.moments = []
        self.calls_made = 0
        # The number of each call under way, at each row of text that begins, the innermost first.
        self.numbers = []

    def begin(self, block, place):
        self.stack[-1][1:] = [block, place[0]]
        Reader.begin(self, block, place)
        self.moments.append(self.moment())
        self.numbers.append([number for number, _, _ in reversed(self.stack)])

    def call(self, start, given, depth):
        self.calls_made += 1
        self.stack.append([self.calls_made, None, 0])
        worth = Reader.call(self, start, given, depth)
        self.stack.pop()
        return worth

    def moment(self):
        frames = [
            (block.file, block.name, row, self.names_seen(block)) for _, block, row in reversed(self.stack)
        ]
        return Moment(frames, self.keeps_now(), list(self.told.said))

    def names_seen(self, block):
        """(name, kind, worth) of all that stand there, as they are told."""
        one = self.def_at((block.file, block.name))
        seen = block.seen()
        told = []
        for name in [name for _, name, _ in one[4]] + lets_of(one[6]):
            if name in seen:
                kind = self.local_kind(one, name, block)
                told.append((name, kind, by_kind(kind, seen[name])))
        return told

    def keeps_now(self):
        told = []
        for file in sorted(self.trees):
            for one in self.trees[file]:
                if one[0] == "keep":
                    kind = self.kind(("name", (0, 0), file, one[3]), None)
                    told.append((file, one[3], kind, by_kind(kind, self.keeps[file, one[3]])))
        return told


def lets_of(rows):
    """The names of all lets among rows and within them, in the text's turn."""
    names = []
    for row in rows:
        if row[0] == "let":
            names.append(row[2])
        if row[0] in ("if", "while"):
            for block in row[3:]:
                names += lets_of(block)
    return names


class Followed:
    """A run by the text alone: its moments, what was said, and how it ended as run tells it."""

    def __init__(self, house, file, name, most=300):
        follower = Follower(house, most)
        try:
            worth = follower.call((file, name), (), 1)
            kind = follower.def_at((file, name))[5]
            self.outcome = ("end", None if worth is None else by_kind(kind, worth))
        except Stop as stop:
            _, why, where, place = stop.told
            self.outcome = ("fault", why, where) + place
        self.moments = follower.moments
        self.numbers = follower.numbers
        self.said = follower.told.said
        self.keeps = follower.keeps_now()

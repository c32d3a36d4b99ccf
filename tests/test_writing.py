"""[16]: texts written one way, by text_of."""

import random
import unittest

from making import made_house
from support import bare, fault_of
from wholetongue.tree import tree_of, worth_tree
from wholetongue.words import words_of
from wholetongue.writing import text_of

SIGNS = ("or", "and", "=", "<>", "<", "<=", "+", "-", "*", "/", "mod")


class Written(unittest.TestCase):
    def writes(self, text, wanted):
        tree = tree_of(text)
        self.assertEqual(text_of(tree), wanted)
        self.assertEqual(bare(tree_of(wanted)), bare(tree))

    def stays(self, *rows):
        self.writes("\n".join(rows), "\n".join(rows))

    def worth(self, text, wanted=None):
        self.writes("const a = " + text, "const a = " + (text if wanted is None else wanted))


class FilesTest(Written):
    def test_the_empty_tree(self):
        self.assertEqual(text_of(((), ())), "")
        self.writes("\n # nothing\n\n", "")

    def test_all_uses_stand_in_one_row(self):
        self.writes("use a", "use a")
        self.writes("use a ,b\nuse  c\n\nuse d,e", "use a, b, c, d, e")
        self.writes("use b\nuse a\nconst c = 1", "use b, a\nconst c = 1")

    def test_consts_and_keeps(self):
        self.stays("const a = 1", "keep b = yes", "out const c = no", "out keep d = 12")

    def test_no_empty_rows_remarks_or_more_blanks(self):
        self.writes("\n\nconst   a=1 # one\n#\n  keep b  =2\n\n", "const a = 1\nkeep b = 2")

    def test_defs(self):
        self.stays("def a()", "end")
        self.stays("def a() num", "end", "out def b() yes", "end")
        self.stays("out def a(b num)", "end", "def c(d yes, e num, f yes) num", "end")
        self.writes("def a ( b num ,c yes )num\nend", "def a(b num, c yes) num\nend")

    def test_told_in_its_turn(self):
        self.stays("keep c = 1", "def b()", "end", "const a = 1", "def a()", "end")

    def test_no_line_end_behind(self):
        self.writes("const a = 1\n", "const a = 1")


class RowsTest(Written):
    def test_each_kind_of_row(self):
        self.stays(
            "def a()", "  let b = 1", "  b = 2", "  say b", "  do a()", "  do f.a(1, b)", "  give",
            "  give b", "end",
        )

    def test_two_blanks_for_each_block(self):
        self.stays(
            "def a()", "  if yes", "    say 1", "    while no", "      say 2", "      if a", "        give",
            "      end", "    end", "  else", "    say 3", "    if b", "      say 4", "    else", "      say 5",
            "    end", "  end", "  say 6", "end", "const b = 1",
        )

    def test_blocks_without_rows(self):
        self.stays("def a()", "  if yes", "  end", "  while yes", "  end", "end")
        self.stays("def a()", "  if yes", "  else", "    say 1", "  end", "end")
        self.writes("def a()\nif yes\nsay 1\nelse\nend\nend", "def a()\n  if yes\n    say 1\n  end\nend")

    def test_rows_that_stand_otherwise(self):
        self.writes("def a ( )\nif (b)\n\n say(1)\n end\nend", "def a()\n  if b\n    say 1\n  end\nend")


class WorthsTest(Written):
    def test_singles(self):
        for text in ("0", "999999", "yes", "no", "b", "f.b", "b()", "f.b()", "b(1)", "f.b(1, yes, c)"):
            self.worth(text)
        self.worth("f . b ( 1 ,c )", "f.b(1, c)")
        self.worth("((b))", "b")

    def test_signs(self):
        for sign in SIGNS:
            self.worth("b " + sign + " c")
        self.worth("b<c", "b < c")
        self.worth("b-c", "b - c")

    def test_ahead(self):
        self.worth("not b")
        self.worth("not not b")
        self.worth("-b")
        self.worth("--b")
        self.worth("- - b", "--b")
        self.worth("b - -c")
        self.worth("b * -c")
        self.worth("-b * -c")
        self.worth("not -b < c")
        self.worth("-f.b(-1, --2)")

    def test_looser_within_tighter(self):
        self.worth("(b or c) and d")
        self.worth("b and (c or d)")
        self.worth("not (b or c)")
        self.worth("not (b and c)")
        self.worth("(not b) = c")
        self.worth("b = (not c)")
        self.worth("b + (not c)")
        self.worth("(b < c) + d")
        self.worth("b * (c + d)")
        self.worth("(b - c) mod d")
        self.worth("-(b + c)")
        self.worth("-(b * c)")
        self.worth("-(not b)")
        self.worth("-(b or c)")

    def test_tighter_within_looser_has_no_brackets(self):
        self.worth("(b and c) or (d and e)", "b and c or d and e")
        self.worth("(not b) and (not c)", "not b and not c")
        self.worth("b or (not c)", "b or not c")
        self.worth("not (b = c)", "not b = c")
        self.worth("(b + c) < (d - e)", "b + c < d - e")
        self.worth("(b * c) + (d / e)", "b * c + d / e")
        self.worth("(-b) + (-c)", "-b + -c")
        self.worth("(-b) * c", "-b * c")
        self.worth("f.b((c or d), (1))", "f.b(c or d, 1)")

    def test_signs_of_one_degree(self):
        for signs in (("or", "or"), ("and", "and"), ("+", "-"), ("-", "+"), ("-", "-"), ("*", "/"),
                      ("mod", "*"), ("/", "mod")):
            first, second = signs
            self.worth("b " + first + " c " + second + " d")
            self.worth("(b " + first + " c) " + second + " d", "b " + first + " c " + second + " d")
            self.worth("b " + first + " (c " + second + " d)")

    def test_comparing_within_comparing(self):
        for first in ("=", "<>", "<", "<="):
            for second in ("=", "<>", "<", "<="):
                self.worth("(b " + first + " c) " + second + " d")
                self.worth("b " + first + " (c " + second + " d)")
        self.worth("(b = c) = (d < e)")

    def test_places_are_not_looked_at(self):
        self.assertEqual(
            text_of((((0, "b"),), (("const", None, True, "a", ("+", 0, ("num", 0, 1), ("num", 0, 2))),))),
            "use b\nout const a = 1 + 2",
        )


class ManyTest(Written):
    def worth_by_chance(self, chance, depth):
        what = chance.choice(SIGNS + ("not", "neg", "call", "single", "single", "single"))
        if depth == 0 or what == "single":
            return chance.choice((("num", 1), ("truth", True), ("name", "", "b"), ("name", "f", "b")))
        if what == "call":
            many = chance.randint(0, 3)
            return ("call", "f", "b", tuple(self.worth_by_chance(chance, depth - 1) for _ in range(many)))
        if what in ("not", "neg"):
            return (what, self.worth_by_chance(chance, depth - 1))
        return (what, self.worth_by_chance(chance, depth - 1), self.worth_by_chance(chance, depth - 1))

    def placed(self, worth):
        """A tree with places, from one without."""
        inner = tuple(self.placed(one) if type(one) is tuple and one and type(one[0]) is str else one
                      for one in worth[1:])
        if worth[0] == "call":
            inner = inner[:-1] + (tuple(self.placed(one) for one in worth[-1]),)
        return (worth[0], (9, 9)) + inner

    def test_trees_come_back(self):
        chance = random.Random(16)
        for _ in range(600):
            worth = self.worth_by_chance(chance, 4)
            text = text_of(((), (("const", (9, 9), False, "a", self.placed(worth)),)))
            fault = fault_of(tree_of, text)
            if fault is None:
                self.assertEqual(bare(tree_of(text)[1][0][4]), worth, text)
                self.no_brackets_for_nothing(text[len("const a = "):], worth)
            else:
                # Just a tree that no text can have: more than sixty words in a row.
                self.assertGreater(len(words_of(text)), 60)

    def no_brackets_for_nothing(self, text, worth):
        for at, sign in enumerate(text):
            if sign == "(" and (at == 0 or not text[at - 1].isalpha()):
                end = self.end_of(text, at)
                other = text[:at] + " " + text[at + 1:end] + " " + text[end + 1:]
                if fault_of(worth_tree, other) is None:
                    self.assertNotEqual(bare(worth_tree(other)), worth, text)

    def end_of(self, text, at):
        open_ones = 0
        for end in range(at, len(text)):
            open_ones += {"(": 1, ")": -1}.get(text[end], 0)
            if open_ones == 0:
                return end

    def test_whole_files_come_back(self):
        for number in range(60):
            for text in made_house(number).values():
                written = text_of(tree_of(text))
                self.assertEqual(bare(tree_of(written)), bare(tree_of(text)))
                self.assertEqual(text_of(tree_of(written)), written)


if __name__ == "__main__":
    unittest.main()

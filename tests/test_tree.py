"""[3], [4], [5]: files, by tree_of."""

import unittest

from support import bare, fault_of
from wholetongue.tree import tree_of, worth_tree

ONE = ("num", 1)


class Trees(unittest.TestCase):
    def refused(self, text, row, column):
        self.assertEqual(fault_of(tree_of, text), ("tree", "", (row, column), "tree"), text)

    def rows(self, text):
        """The rows of a def that has these rows, without their places."""
        uses, told = tree_of("def f()\n" + text + "\nend")
        self.assertEqual((uses, len(told)), ((), 1))
        return bare(told[0][6])

    def refused_within(self, text, row, column):
        """A refusal within a def, its row counted from the def's first one."""
        self.refused("def f()\n" + text + "\nend", row + 1, column)


class FilesTest(Trees):
    def test_the_empty_text(self):
        for text in ("", "\n\n", "  # a\n"):
            self.assertEqual(tree_of(text), ((), ()))

    def test_uses(self):
        self.assertEqual(tree_of("use a"), ((((1, 5), "a"),), ()))
        self.assertEqual(
            tree_of("use a, b ,c\n\n use d"),
            ((((1, 5), "a"), ((1, 8), "b"), ((1, 11), "c"), ((3, 6), "d")), ()),
        )

    def test_uses_of_one_file_twice_are_told_twice(self):
        self.assertEqual(bare(tree_of("use a, a")), ((("a",), ("a",)), ()))

    def test_uses_come_first(self):
        self.refused("const a = 1\nuse b", 2, 1)
        self.refused("use a\ndef f()\nend\nuse b", 4, 1)
        self.refused("def f()\nuse b\nend", 2, 1)
        self.refused("out use a", 1, 5)

    def test_uses_that_are_none(self):
        self.refused("use", 1, 4)
        self.refused("use a b", 1, 7)
        self.refused("use a,", 1, 7)
        self.refused("use a,,b", 1, 7)
        self.refused("use a,\nb", 1, 7)
        self.refused("use const", 1, 5)
        self.refused("use 1", 1, 5)
        self.refused("use a.b", 1, 6)
        self.refused("use , a", 1, 5)

    def test_consts_and_keeps(self):
        self.assertEqual(
            tree_of("const a = 1"), ((), (("const", (1, 7), False, "a", ("num", (1, 11), 1)),))
        )
        self.assertEqual(
            tree_of("  keep bc= yes"), ((), (("keep", (1, 8), False, "bc", ("truth", (1, 12), True)),))
        )

    def test_out(self):
        self.assertEqual(bare(tree_of("out const a = 1\nout keep b = 1\nout def c()\nend")[1]), (
            ("const", True, "a", ONE), ("keep", True, "b", ONE), ("def", True, "c", (), "", ()),
        ))
        self.assertEqual(tree_of("out keep a = 1")[1][0][:3], ("keep", (1, 10), True))
        self.assertEqual(tree_of("out def a()\nend")[1][0][:3], ("def", (1, 9), True))
        for text in ("const a = 1", "out const a = 1", "def a()\nend", "out def a()\nend"):
            self.assertIs(tree_of(text)[1][0][2], text.startswith("out"))

    def test_told_in_any_turn(self):
        told = tree_of("use z\ndef a()\nend\nkeep b = 1\nconst c = 1\ndef d()\nend\nkeep e = 1")[1]
        self.assertEqual([(one[0], one[3]) for one in told], [
            ("def", "a"), ("keep", "b"), ("const", "c"), ("def", "d"), ("keep", "e"),
        ])

    def test_names_may_be_told_twice(self):
        self.assertEqual(len(tree_of("const a = 1\nkeep a = 1\ndef a(a num, a yes)\nend")[1]), 3)

    def test_told_rows_that_are_none(self):
        self.refused("out", 1, 4)
        self.refused("out a = 1", 1, 5)
        self.refused("out out const a = 1", 1, 5)
        self.refused("const", 1, 6)
        self.refused("const a", 1, 8)
        self.refused("const a 1", 1, 9)
        self.refused("const a =", 1, 10)
        self.refused("const a = 1 1", 1, 13)
        self.refused("const a.b = 1", 1, 8)
        self.refused("const 1 = 1", 1, 7)
        self.refused("const let = 1", 1, 7)
        self.refused("keep", 1, 5)
        self.refused("keep yes = 1", 1, 6)
        self.refused("keep a = 1,", 1, 11)
        self.refused("keep a <= 1", 1, 8)

    def test_rows_that_stand_in_defs_alone(self):
        for text in ("let a = 1", "a = 1", "if yes", "while yes", "give 1", "give", "say 1",
                     "do f()", "end", "else", "num", "1", "(", "no", "not"):
            self.refused(text, 1, 1)
            self.refused("const a = 1\n" + text, 2, 1)
        self.refused("def f()\nend\nend", 3, 1)
        self.refused("out let a = 1", 1, 5)

    def test_rows_are_parted_by_line_ends(self):
        self.refused("const a = 1 const b = 1", 1, 13)
        self.refused("const a\n= 1", 1, 8)
        self.refused("def f() end", 1, 9)

    def test_remarks_and_blanks(self):
        self.assertEqual(
            bare(tree_of(" # one\n\nconst  a=1# two\n#\n")), bare(tree_of("const a = 1"))
        )

    def test_words_first(self):
        self.assertEqual(fault_of(tree_of, "let a\n\n ?"), ("words", "", (3, 2), "word"))
        self.assertEqual(fault_of(tree_of, "const a = 01"), ("words", "", (1, 11), "word"))

    def test_the_first_fault_in_turn(self):
        self.refused("const a =\nconst = 1", 1, 10)
        self.refused("const = 1\nconst a =", 1, 7)
        self.refused("def f()\nlet = 1", 2, 5)

    def test_asked_again_the_same_is_told(self):
        text = "use a\nout def f(b num) yes\nif b = 1\ngive yes\nend\nend\nkeep c = f(1)"
        first = tree_of(text)
        self.assertEqual(tree_of(text), first)
        self.assertTrue(only_plain(first))

    def test_asked_again_the_same_is_refused(self):
        for _ in range(2):
            self.refused("def f()\ngive 1 +\nend", 2, 9)


def only_plain(tree):
    """Whether there are but tuples, texts, numbers, truths and None in a tree."""
    if type(tree) is tuple:
        return all(only_plain(thing) for thing in tree)
    return tree is None or type(tree) in (str, int, bool)


class DefsTest(Trees):
    def test_without_parts(self):
        self.assertEqual(
            tree_of("def f()\nend"), ((), (("def", (1, 5), False, "f", (), "", (), (2, 1)),))
        )

    def test_with_parts(self):
        self.assertEqual(tree_of("def f(a num, bc yes)\n  end")[1], ((
            "def", (1, 5), False, "f", (((1, 7), "a", "num"), ((1, 14), "bc", "yes")), "", (), (2, 3),
        ),))

    def test_six_parts(self):
        parts = ", ".join(name + " num" for name in "abcdef")
        told = tree_of("def f(" + parts + ")\nend")[1]
        self.assertEqual(bare(told[0][4]), tuple((name, "num") for name in "abcdef"))

    def test_a_seventh_is_refused_at_its_comma(self):
        parts = ", ".join(name + " num" for name in "abcdef")
        self.refused("def f(" + parts + ", g num)\nend", 1, 7 + len(parts))
        self.refused("def f(" + parts + ",", 1, 7 + len(parts))
        self.refused("def f(" + parts, 1, 7 + len(parts))

    def test_kinds(self):
        for kind in ("num", "yes"):
            self.assertEqual(tree_of("def f() " + kind + "\nend")[1][0][5], kind)
        self.assertEqual(tree_of("def f()\nend")[1][0][5], "")
        self.assertEqual(tree_of("out def f(a yes) num\nend")[1][0][5], "num")

    def test_defs_that_are_none(self):
        self.refused("def", 1, 4)
        self.refused("def f", 1, 6)
        self.refused("def (", 1, 5)
        self.refused("def f num", 1, 7)
        self.refused("def f(", 1, 7)
        self.refused("def f(a", 1, 8)
        self.refused("def f(a num", 1, 12)
        self.refused("def f(a num,", 1, 13)
        self.refused("def f(a num,)", 1, 13)
        self.refused("def f(,a num)", 1, 7)
        self.refused("def f(a)", 1, 8)
        self.refused("def f(a no)", 1, 9)
        self.refused("def f(a num b num)", 1, 13)
        self.refused("def f(num)", 1, 7)
        self.refused("def f(1 num)", 1, 7)
        self.refused("def f() no", 1, 9)
        self.refused("def f() num yes", 1, 13)
        self.refused("def f() give", 1, 9)
        self.refused("def f.g()", 1, 6)
        self.refused("def def()", 1, 5)

    def test_no_def_within_another(self):
        self.refused_within("def g()\nend", 1, 1)
        self.refused_within("out def g()\nend", 1, 1)
        self.refused_within("const a = 1", 1, 1)
        self.refused_within("keep a = 1", 1, 1)
        self.refused_within("if yes\nconst a = 1\nend", 2, 1)

    def test_ends_and_elses(self):
        self.refused("def f()\nelse\nend", 2, 1)
        self.refused("def f()\nend end", 2, 5)
        self.refused("def f()\nend 1", 2, 5)

    def test_an_end_that_lacks(self):
        self.refused("def f()", 2, 1)
        self.refused("def f()\n", 3, 1)
        self.refused("def f()\n\n# a\n", 5, 1)
        self.refused("def f()\nlet a = 1", 3, 1)
        self.refused("def f()\nif yes\nend", 4, 1)
        self.refused("def f()\nif yes\nelse\nend", 5, 1)
        self.refused("def f()\nwhile yes\nsay 1", 4, 1)
        self.refused("def f()\nif yes\nelse", 4, 1)


class RowsTest(Trees):
    def test_no_rows(self):
        self.assertEqual(self.rows(""), ())

    def test_let(self):
        self.assertEqual(self.rows("let a = 1"), (("let", "a", ONE),))

    def test_set(self):
        self.assertEqual(self.rows("a = 1"), (("set", "a", ONE),))
        self.assertEqual(self.rows("a = a = 1"), (("set", "a", ("=", ("name", "", "a"), ONE)),))

    def test_give(self):
        self.assertEqual(self.rows("give 1"), (("give", ONE),))
        self.assertEqual(self.rows("give"), (("give", None),))
        self.assertEqual(self.rows("give # 1"), (("give", None),))

    def test_say(self):
        self.assertEqual(self.rows("say 1"), (("say", ONE),))

    def test_do(self):
        self.assertEqual(self.rows("do g()"), (("do", ("call", "", "g", ())),))
        self.assertEqual(self.rows("do h.g(1)"), (("do", ("call", "h", "g", (ONE,))),))

    def test_if(self):
        self.assertEqual(self.rows("if yes\nend"), (("if", ("truth", True), (), ()),))
        self.assertEqual(
            self.rows("if yes\nsay 1\ngive\nend"),
            (("if", ("truth", True), (("say", ONE), ("give", None)), ()),),
        )

    def test_else(self):
        self.assertEqual(self.rows("if yes\nelse\nend"), (("if", ("truth", True), (), ()),))
        self.assertEqual(
            self.rows("if yes\ngive\nelse\nsay 1\nsay 1\nend"),
            (("if", ("truth", True), (("give", None),), (("say", ONE), ("say", ONE))),),
        )

    def test_while(self):
        self.assertEqual(self.rows("while no\nend"), (("while", ("truth", False), ()),))
        self.assertEqual(
            self.rows("while no\na = 1\nend\ngive"),
            (("while", ("truth", False), (("set", "a", ONE),)), ("give", None)),
        )

    def test_within_one_another(self):
        text = "if yes\nwhile no\nif yes\ngive\nelse\nsay 1\nend\nend\nelse\nwhile yes\nend\nend\nsay 1"
        inner = ("if", ("truth", True), (("give", None),), (("say", ONE),))
        self.assertEqual(self.rows(text), (
            ("if", ("truth", True), (("while", ("truth", False), (inner,)),),
             (("while", ("truth", True), ()),)),
            ("say", ONE),
        ))

    def test_rows_behind_a_give_stand_in_the_tree(self):
        self.assertEqual(self.rows("give 1\nsay 1"), (("give", ONE), ("say", ONE)))

    def test_rows_that_are_none(self):
        self.refused_within("let", 1, 4)
        self.refused_within("let a", 1, 6)
        self.refused_within("let a =", 1, 8)
        self.refused_within("let a.b = 1", 1, 6)
        self.refused_within("let if = 1", 1, 5)
        self.refused_within("let 1 = 1", 1, 5)
        self.refused_within("a", 1, 2)
        self.refused_within("a.b = 1", 1, 2)
        self.refused_within("a()", 1, 2)
        self.refused_within("a =", 1, 4)
        self.refused_within("a = 1 b", 1, 7)
        self.refused_within("if", 1, 3)
        self.refused_within("if yes say 1", 1, 8)
        self.refused_within("while", 1, 6)
        self.refused_within("while yes do", 1, 11)
        self.refused_within("say", 1, 4)
        self.refused_within("say 1, 2", 1, 6)
        self.refused_within("give give", 1, 6)
        self.refused_within("give 1 2", 1, 8)
        self.refused_within("give,", 1, 5)
        for word in ("use", "out", "num", "yes", "1", "(", "=", "or", "mod", "-"):
            self.refused_within(word + " a", 1, 1)

    def test_do_and_no_call(self):
        self.refused_within("do", 1, 3)
        self.refused_within("do a", 1, 5)
        self.refused_within("do a.b", 1, 7)
        self.refused_within("do a.", 1, 6)
        self.refused_within("do 1", 1, 4)
        self.refused_within("do (a())", 1, 4)
        self.refused_within("do -a()", 1, 4)
        self.refused_within("do a() + 1", 1, 8)
        self.refused_within("do a + 1", 1, 6)
        self.refused_within("do a(", 1, 6)
        self.refused_within("do a(1", 1, 7)
        self.refused_within("do a().b()", 1, 7)

    def test_elses_where_none_may_stand(self):
        self.refused_within("while yes\nelse\nend", 2, 1)
        self.refused_within("if yes\nelse\nelse\nend", 3, 1)
        self.refused_within("if yes\nwhile no\nelse\nend\nend", 3, 1)
        self.refused_within("if yes\nend\nelse\nend", 3, 1)
        self.refused_within("if yes\nelse if no\nend", 2, 6)
        self.refused_within("if yes\nelse 1\nend", 2, 6)
        self.refused_within("if yes\nend 1", 2, 5)
        self.refused_within("while yes\nend yes", 2, 5)

    def test_an_else_stands_with_the_innermost_if(self):
        self.assertEqual(self.rows("if yes\nif no\nelse\ngive\nend\nend"), (
            ("if", ("truth", True), (("if", ("truth", False), (), (("give", None),)),), ()),
        ))


class LimitsTest(Trees):
    def nested(self, heads):
        return "\n".join(heads) + "\nsay 1" + "\nend" * len(heads)

    def test_six_ifs_and_whiles(self):
        for heads in (["if yes"] * 6, ["while yes"] * 6, ["if yes", "while no"] * 3):
            rows = self.rows(self.nested(heads))
            for _ in heads:
                rows = rows[0][2]
            self.assertEqual(rows, (("say", ONE),))

    def test_the_seventh(self):
        for heads in (["if yes"] * 7, ["while yes"] * 7, ["if yes", "while no"] * 4):
            self.refused_within(self.nested(heads), 7, 1)
        self.refused_within(self.nested(["if yes"] * 6 + ["  if"]), 7, 3)
        self.refused_within(self.nested(["if yes"] * 6 + [" while 1 1"]), 7, 2)

    def test_elses_count_as_their_ifs_do(self):
        six = self.nested(["if yes\nelse"] * 6)
        rows = self.rows(six)
        for _ in range(6):
            rows = rows[0][3]
        self.assertEqual(rows, (("say", ONE),))
        self.refused_within(self.nested(["if yes\nelse"] * 7), 13, 1)

    def test_side_by_side_they_do_not_count(self):
        self.assertEqual(len(self.rows("if yes\nend\nwhile no\nend\n" * 5)), 10)
        six = self.nested(["if yes"] * 6)
        self.assertEqual(len(self.rows(six + "\n" + six)), 2)
        five = self.nested(["while no"] * 5)
        self.assertEqual(len(self.rows("if yes\n" + five + "\nelse\n" + five + "\nend")), 1)
        _, told = tree_of("def f()\n" + six + "\nend\ndef g()\n" + six + "\nend")
        self.assertEqual(len(told), 2)

    def test_brackets_count_in_each_row_anew(self):
        eight = "(" * 8 + "1" + ")" * 8
        self.assertEqual(self.rows("if " + eight + "\nsay " + eight + "\nend"), (
            ("if", ONE, (("say", ONE),), ()),
        ))
        for head in ("let a = ", "a = ", "if ", "while ", "give ", "say "):
            self.refused_within(head + "(" + eight + ")", 1, len(head) + 9)
        self.refused("const a = (" + eight + ")", 1, 19)
        self.refused("keep a = (" + eight + ")", 1, 18)

    def test_brackets_of_do(self):
        self.assertEqual(len(self.rows("do a(" + "(" * 7 + "1" + ")" * 8)), 1)
        self.refused_within("do a(" + "(" * 8 + "1" + ")" * 9, 1, 13)

    def test_sixty_words(self):
        self.assertEqual(len(self.rows("let a = - -1" + " + 1" * 27)), 1)
        uses, _ = tree_of("use a" + ", a" * 29)
        self.assertEqual(len(uses), 30)

    def test_the_sixty_first_word(self):
        row = "let a = - -1" + " + 1" * 27
        self.refused_within(row + " + 1", 1, len(row) + 2)
        row = "say -1" + " + 1" * 28 + " +"
        self.refused_within(row + " 1", 1, len(row) + 2)
        row = "use a" + ", a" * 29
        self.refused(row + ", a", 1, len(row) + 1)
        self.refused(row + ",", 1, len(row) + 1)

    def test_the_sixty_first_word_of_no_other_row(self):
        self.assertEqual(len(self.rows("say 1" + " + 1" * 28 + "\nsay 1")), 2)

    def test_a_row_of_sixty_words_that_lacks_one(self):
        row = "say -1" + " + 1" * 28 + " +"
        self.refused_within(row, 1, len(row) + 1)


class PlacesTest(Trees):
    def test_places_of_all_nodes(self):
        text = "\n".join([
            "use ab, c",
            "out const d = - 1",
            " keep e = not yes",
            "",
            "def f(g num, h yes) num # a remark",
            "  let i = ab.j + k(l, (m))",
            "  i = 2",
            "  if a or b",
            "    say c",
            "  else",
            "    while d",
            "      do c.e(1)",
            "    end",
            "  end",
            "  give f",
            "  give",
            "   end",
        ])
        self.assertEqual(tree_of(text), (
            (((1, 5), "ab"), ((1, 9), "c")),
            (
                ("const", (2, 11), True, "d", ("neg", (2, 15), ("num", (2, 17), 1))),
                ("keep", (3, 7), False, "e", ("not", (3, 11), ("truth", (3, 15), True))),
                (
                    "def", (5, 5), False, "f", (((5, 7), "g", "num"), ((5, 14), "h", "yes")), "num",
                    (
                        ("let", (6, 7), "i", (
                            "+", (6, 16), ("name", (6, 11), "ab", "j"),
                            ("call", (6, 18), "", "k",
                             (("name", (6, 20), "", "l"), ("name", (6, 24), "", "m"))),
                        )),
                        ("set", (7, 3), "i", ("num", (7, 7), 2)),
                        (
                            "if", (8, 3),
                            ("or", (8, 8), ("name", (8, 6), "", "a"), ("name", (8, 11), "", "b")),
                            (("say", (9, 5), ("name", (9, 9), "", "c")),),
                            ((
                                "while", (11, 5), ("name", (11, 11), "", "d"),
                                (("do", (12, 7), ("call", (12, 10), "c", "e", (("num", (12, 14), 1),))),),
                            ),),
                        ),
                        ("give", (15, 3), ("name", (15, 8), "", "f")),
                        ("give", (16, 3), None),
                    ),
                    (17, 4),
                ),
            ),
        ))

    def test_a_worth_of_its_own_has_the_same_places(self):
        text = "a.b(not 1, -2) mod c <> (d)"
        _, told = tree_of("keep a =\n".replace("\n", " ") + text)
        self.assertEqual(told[0][4], worth_tree(" " * 9 + text))

    def test_behind_the_last_word_though_blanks_and_remarks_follow(self):
        self.refused("const a =     ", 1, 10)
        self.refused("const abcdef   # = 1", 1, 13)
        self.refused("\n\n  keep\nconst a = 1", 3, 7)
        self.refused("const a = 1 <=", 1, 15)
        self.refused("const a = 123456 mod", 1, 21)


if __name__ == "__main__":
    unittest.main()

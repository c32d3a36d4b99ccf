"""[4], [5]: E, alone, by worth_tree."""

import unittest

from support import bare, fault_of, short
from wholetongue.tree import tree_of, worth_tree


class Expressions(unittest.TestCase):
    def reads(self, text, wanted):
        self.assertEqual(short(worth_tree(text)), wanted, text)

    def refused(self, text, column, row=1):
        self.assertEqual(fault_of(worth_tree, text), ("tree", "", (row, column), "tree"), text)


class SinglesTest(Expressions):
    def test_numbers(self):
        self.assertEqual(worth_tree("12"), ("num", (1, 1), 12))
        self.assertEqual(worth_tree("0"), ("num", (1, 1), 0))
        self.assertIs(type(worth_tree("999999")[2]), int)

    def test_truths(self):
        self.assertEqual(worth_tree("yes"), ("truth", (1, 1), True))
        self.assertEqual(worth_tree(" no"), ("truth", (1, 2), False))
        self.assertIs(worth_tree("yes")[2], True)
        self.assertIs(worth_tree("no")[2], False)

    def test_names(self):
        self.assertEqual(worth_tree("  abc"), ("name", (1, 3), "", "abc"))
        self.assertEqual(worth_tree("ab.cd"), ("name", (1, 1), "ab", "cd"))
        self.assertEqual(worth_tree(" ab . cd"), ("name", (1, 2), "ab", "cd"))

    def test_calls(self):
        self.assertEqual(worth_tree("a()"), ("call", (1, 1), "", "a", ()))
        self.assertEqual(worth_tree(" f.a ( )"), ("call", (1, 2), "f", "a", ()))
        self.assertEqual(
            worth_tree("f.a(1, b)"),
            ("call", (1, 1), "f", "a", (("num", (1, 5), 1), ("name", (1, 8), "", "b"))),
        )

    def test_calls_have_any_count_of_worths(self):
        self.reads("a(1,2,3,4,5,6,7,8)", "a(1, 2, 3, 4, 5, 6, 7, 8)")

    def test_calls_of_whole_expressions(self):
        self.reads("a(b or c, not d, -e(f.g(1)))", "a((b or c), (not d), (-e(f.g(1))))")

    def test_what_is_no_expression(self):
        for text in ("let", "num", "mod", "or", "=", ")", ",", ".", "*", "end", "out", "def", "give"):
            self.refused(text, 1)
            self.refused("1 + " + text, 5)

    def test_what_lacks(self):
        self.refused("1 +", 4)
        self.refused("1 +   # remark", 4)
        self.refused("not", 4)
        self.refused("a.", 3)
        self.refused("a(", 3)
        self.refused("a(1", 4)
        self.refused("a(1,", 5)
        self.refused("(abc", 5)
        self.refused("  -", 4)
        self.refused("a and not", 10)
        self.refused("123 mod", 8)

    def test_what_cannot_stand_behind(self):
        self.refused("1 2", 3)
        self.refused("a b", 3)
        self.refused("1(2)", 2)
        self.refused("1.a", 2)
        self.refused("a.b.c", 4)
        self.refused("a.1", 3)
        self.refused("a.yes", 3)
        self.refused("a()()", 4)
        self.refused("a().b", 4)
        self.refused("(a)(b)", 4)
        self.refused("(a).b", 4)
        self.refused("a)", 2)
        self.refused("a, b", 2)
        self.refused("yes.a", 4)
        self.refused("a not b", 3)
        self.refused("a(1,)", 5)
        self.refused("a(,1)", 3)
        self.refused("a(1 2)", 5)
        self.refused("()", 2)
        self.refused("(1, 2)", 3)
        self.refused("a = num", 5)


class LoosenessTest(Expressions):
    def test_each_sign(self):
        for sign in ("or", "and", "=", "<>", "<", "<=", "+", "-", "*", "/", "mod"):
            self.assertEqual(
                worth_tree("a " + sign + " 1"),
                (sign, (1, 3), ("name", (1, 1), "", "a"), ("num", (1, 4 + len(sign)), 1)),
            )
        self.assertEqual(worth_tree("not a"), ("not", (1, 1), ("name", (1, 5), "", "a")))
        self.assertEqual(worth_tree("-a"), ("neg", (1, 1), ("name", (1, 2), "", "a")))

    def test_each_degree(self):
        self.reads("a or b and c", "(a or (b and c))")
        self.reads("a and b or c", "((a and b) or c)")
        self.reads("not a and b", "((not a) and b)")
        self.reads("not a or b", "((not a) or b)")
        self.reads("a and not b", "(a and (not b))")
        self.reads("a or not b and c", "(a or ((not b) and c))")
        for sign in ("=", "<>", "<", "<="):
            self.reads("not a " + sign + " b", "(not (a " + sign + " b))")
            self.reads("a " + sign + " b and c", "((a " + sign + " b) and c)")
            self.reads("a " + sign + " b or c", "((a " + sign + " b) or c)")
            for part in ("+", "-"):
                self.reads(f"a {part} b {sign} c {part} d", f"((a {part} b) {sign} (c {part} d))")
        for sum_sign in ("+", "-"):
            for sign in ("*", "/", "mod"):
                self.reads(f"a {sum_sign} b {sign} c", f"(a {sum_sign} (b {sign} c))")
                self.reads(f"a {sign} b {sum_sign} c", f"((a {sign} b) {sum_sign} c)")
        for sign in ("*", "/", "mod", "+", "-"):
            self.reads(f"-a {sign} b", f"((-a) {sign} b)")
            self.reads(f"a {sign} -b", f"(a {sign} (-b))")
        self.reads("-a.b(1)", "(-a.b(1))")

    def test_all_degrees_together(self):
        self.reads(
            "a or b and not c = d + e * - f",
            "(a or (b and (not (c = (d + (e * (-f)))))))",
        )

    def test_from_left_to_right(self):
        self.reads("a or b or c", "((a or b) or c)")
        self.reads("a and b and c", "((a and b) and c)")
        self.reads("a - b + c - d", "(((a - b) + c) - d)")
        self.reads("a + b - c", "((a + b) - c)")
        self.reads("a / b * c mod d / e", "((((a / b) * c) mod d) / e)")
        self.reads("a mod b mod c", "((a mod b) mod c)")

    def test_one_comparing_sign_at_the_most(self):
        for first in ("=", "<>", "<", "<="):
            for second in ("=", "<>", "<", "<="):
                self.refused(f"a {first} b {second} c", 6 + len(first))
        self.reads("(a < b) = (c < d)", "((a < b) = (c < d))")
        self.reads("a = b and c = d", "((a = b) and (c = d))")
        self.reads("not a = b or c <= d", "((not (a = b)) or (c <= d))")

    def test_nots_ahead(self):
        self.reads("not not a", "(not (not a))")
        self.refused("a = not b", 5)
        self.refused("a + not b", 5)
        self.refused("- not b", 3)
        self.reads("a = (not b)", "(a = (not b))")

    def test_minuses_ahead(self):
        self.reads("--a", "(-(-a))")
        self.reads("a--b", "(a - (-b))")
        self.reads("a - - - b", "(a - (-(-b)))")
        self.reads("not -a", "(not (-a))")
        self.refused("+a", 1)
        self.refused("a - + b", 5)

    def test_brackets_that_are_needed(self):
        self.reads("(a or b) and c", "((a or b) and c)")
        self.reads("a - (b - c)", "(a - (b - c))")
        self.reads("(a + b) * c", "((a + b) * c)")
        self.reads("-(a * b)", "(-(a * b))")
        self.reads("not (a and b)", "(not (a and b))")
        self.reads("a and (b and c)", "(a and (b and c))")

    def test_needless_brackets(self):
        self.assertEqual(bare(worth_tree("((a) * (b)) + (1)")), bare(worth_tree("a * b + 1")))
        self.assertEqual(worth_tree("((a))"), ("name", (1, 3), "", "a"))
        self.assertEqual(worth_tree("(f.n)"), ("name", (1, 2), "f", "n"))


class DepthTest(Expressions):
    def test_brackets(self):
        self.reads("(" * 8 + "a" + ")" * 8, "a")
        self.refused("(" * 9 + "a" + ")" * 9, 9)

    def test_calls(self):
        self.reads("a(" * 8 + "1" + ")" * 8, "a(" * 8 + "1" + ")" * 8)
        self.refused("a(" * 9 + "1" + ")" * 9, 18)
        self.refused("(" * 8 + "a()" + ")" * 8, 10)
        self.refused("(" * 8 + "f.a()" + ")" * 8, 12)
        self.reads("(" * 7 + "f.a(1)" + ")" * 7, "f.a(1)")

    def test_nots(self):
        self.reads("not " * 8 + "a", "(not " * 8 + "a" + ")" * 8)
        self.refused("not " * 9 + "a", 33)

    def test_minuses(self):
        self.reads("-" * 8 + "a", "(-" * 8 + "a" + ")" * 8)
        self.refused("-" * 9 + "a", 9)
        self.refused("a" + "-" * 10 + "b", 11)
        self.reads("a" + "-" * 9 + "b", "(a - " + "(-" * 8 + "b" + ")" * 8 + ")")

    def test_all_of_them_count_together(self):
        self.reads("not (-(-a(not b(c))))", "(not (-(-a((not b(c))))))")
        self.refused("not (-(-a(not b(-c))))", 17)
        self.refused("not (-(-a(not b((c)))))", 17)
        self.refused("not (-(-a(not b(d()))))", 18)
        self.refused("not (-(-a(not b(not c))))", 17)
        self.refused("((((((((not a))))))))", 9)

    def test_side_by_side_they_do_not_count(self):
        self.reads("(1) + (2) + (3) + (4) + (5) + (6) + (7) + (8) + (9) + (10)",
                   "(((((((((1 + 2) + 3) + 4) + 5) + 6) + 7) + 8) + 9) + 10)")
        row = " and ".join(["not a"] * 12)
        self.assertEqual(short(worth_tree(row)).count("not"), 12)
        row = " + ".join(["-a()"] * 10)
        self.assertEqual(short(worth_tree(row)).count("(-a())"), 10)
        eight = "(" * 8 + "a" + ")" * 8
        self.reads(eight + " + " + eight, "(a + a)")
        self.reads("a(" + "-" * 7 + "b, " + "-" * 7 + "c)",
                   "a(" + "(-" * 7 + "b" + ")" * 7 + ", " + "(-" * 7 + "c" + ")" * 7 + ")")
        self.reads("not " * 8 + "a and " + "not " * 8 + "b",
                   "(" + "(not " * 8 + "a" + ")" * 8 + " and " + "(not " * 8 + "b" + ")" * 8 + ")")

    def test_a_not_holds_what_it_stands_ahead_of_alone(self):
        self.reads("not (((((((a))))))) = b", "(not (a = b))")
        self.refused("not a = ((((((((b))))))))", 16)
        self.reads("not a and ((((((((b))))))))", "((not a) and b)")
        self.reads("-a * ((((((((b))))))))", "((-a) * b)")


class LengthTest(Expressions):
    def test_sixty_words(self):
        row = "1" + " + 1" * 29
        self.refused(row + " +", len(row) + 3)
        self.assertEqual(short(worth_tree(row)).count("1"), 30)
        self.assertEqual(short(worth_tree("-" + row)).count("1"), 30)

    def test_the_sixty_first(self):
        self.refused("-1" + " + 1" * 29 + " + 1", 120)
        self.refused("-1" + " + 1" * 30, 120)
        self.refused("-1" + " + 1" * 29 + " 1", 120)
        self.refused("1" + " + 1" * 30, 121)
        self.refused("1" + " + 1" * 80, 121)

    def test_what_stands_ahead_of_the_sixty_first(self):
        self.refused("1 1" + " + 1" * 40, 3)
        self.refused("1" + " + 1" * 29 + " 1" + " + 1", 119)

    def test_remarks_are_no_words(self):
        self.reads("1 #" + " 1" * 100, "1")


class AloneTest(Expressions):
    def test_among_empty_rows_and_remarks(self):
        self.assertEqual(worth_tree("\n # a b\n  a\n\n#\n"), ("name", (3, 3), "", "a"))

    def test_a_second_row_with_words(self):
        self.refused("a\nb", 1, 2)
        self.refused("a\n\n# c\n  + b\nc", 3, 4)
        self.refused("\na\nlet", 1, 3)

    def test_the_first_row_is_looked_at_first(self):
        self.refused("a b\nc", 3)
        self.refused("a +\nb", 4)

    def test_without_words(self):
        for text in ("", "\n\n", "   ", "# a", "\n  # a\n"):
            self.refused(text, 1, 1)

    def test_rows_of_a_file_are_no_expressions(self):
        for text in ("let a = 1", "give 1", "const a = 1", "use f", "do a()", "end"):
            self.refused(text, 1)
        self.refused("a = 1 = 2", 7)

    def test_words_first(self):
        self.assertEqual(fault_of(worth_tree, "1 + + !"), ("words", "", (1, 7), "word"))
        self.assertEqual(fault_of(worth_tree, "a\nb\n01"), ("words", "", (3, 1), "word"))

    def test_asked_again_the_same_is_told(self):
        for text in ("a(1, -2) or not b", "f.n = 3"):
            first = worth_tree(text)
            self.assertEqual(worth_tree(text), first)
            self.assertIs(type(first), tuple)

    def test_within_a_file_as_alone(self):
        _, told = tree_of("const a = 1 + b * -2")
        self.assertEqual(told[0][4], worth_tree("          1 + b * -2"))


if __name__ == "__main__":
    unittest.main()

"""[27]: what stands in a file for nothing, by idle_of."""

import unittest

from making import made_house
from support import told_twice
from wholetongue.idle import idle_of

B = "out const k = 1\nout keep s = no\nout def f(x num) num\ngive x\nend"


class Idles(unittest.TestCase):
    def idle(self, text, *told, b=B):
        """All that is idle in a file, as (row, column, why)."""
        found = idle_of({"a": text, "b": b}, "a")
        self.assertEqual(found, [((row, column), why) for row, column, why in told])

    def in_def(self, rows, *told, head="out def f(p num, q yes) num"):
        """Of a def out that names its parts in its last row; rows are counted from its first one."""
        self.idle(head + "\n" + rows + "\nif q\ngive p\nend\nend", *told)


class UnusedTest(Idles):
    def test_consts_keeps_and_defs(self):
        self.idle("const c = 1", (1, 7, "unused"))
        self.idle("keep k = 1", (1, 6, "unused"))
        self.idle("def f()\nend", (1, 5, "unused"))
        self.idle("const a = 1\n  keep b = 2\ndef c()\nend", (1, 7, "unused"), (2, 8, "unused"), (3, 5, "unused"))

    def test_what_is_out(self):
        self.idle("out const c = 1\nout keep k = 1\nout def f()\nend")
        self.idle("out keep k = 1\nout def f()\nk = 2\nend")

    def test_what_is_named(self):
        self.idle("const c = 1\nout const d = c")
        self.idle("const c = 1\nout keep d = c")
        self.idle("const c = 1\nkeep k = 1\nout def f()\nsay c + k\nend")
        self.idle("out def f()\ndo g()\nsay h() + 1\nend\ndef g()\nend\ndef h() num\nend")
        self.idle("const c = 1\nout def f(p num) num\ngive f(f(c) + p)\nend")

    def test_what_just_idle_things_name(self):
        self.idle("const c = 1\nconst d = c", (2, 7, "unused"))
        self.idle("const c = 1\ndef f()\nsay c\ngive\nend", (2, 5, "unused"))
        self.idle("def f()\ndo f()\nend")

    def test_parts_and_lets(self):
        self.idle("out def f(p num, q yes)\nend", (1, 11, "unused"), (1, 18, "unused"))
        self.idle("out def f()\nlet n = 1\nend", (2, 5, "unused"))
        self.idle("out def f()\nlet n = 1\nlet m = n\nend", (3, 5, "unused"))
        self.idle("out def f(p num, q yes)\nlet n = p\nsay n\nif q\nsay 1\nend\nend")

    def test_each_def_has_its_own(self):
        self.idle("out def f(p num)\nsay p\nend\nout def g(p num)\nend", (4, 11, "unused"))
        self.idle("out def f()\nlet n = 1\nend\nout def g()\nlet n = 1\nsay n\nend", (2, 5, "unused"))

    def test_names_within_rows_within_rows(self):
        self.idle("keep k = yes\nout def f(p num)\nwhile k\nlet n = 1\nif k\nlet m = 1\nsay p\nend\nend\nend",
                  (4, 5, "unused"), (6, 5, "unused"))

    def test_names_of_other_files(self):
        b = "out const k = 1\nout keep c = no"
        self.idle("use b\nconst k = 2\nkeep c = 2\nout def f()\nsay b.k\nsay b.c\nend",
                  (2, 7, "unused"), (3, 6, "unused"), b=b)
        house = {"a": "out const n = 1\nconst m = 2", "b": "use a\nout def m()\nsay a.n\nend"}
        self.assertEqual(idle_of(house, "a"), [((2, 7), "unused")])
        self.assertEqual(idle_of(house, "b"), [])


class UnreadTest(Idles):
    def test_what_is_set_alone(self):
        self.idle("keep k = 1\nout def f()\nk = 2\nend", (1, 6, "unread"))
        self.idle("out def f(p num)\np = 2\nend", (1, 11, "unread"))
        self.idle("use b\nout def f()\nlet n = 1\nif b.s\nn = 3\nend\nend", (3, 5, "unread"))

    def test_what_is_set_by_itself(self):
        self.idle("keep k = 1\nout def f()\nk = k + 1\nend")
        self.idle("out def f(p num)\np = -p\nend")

    def test_each_def_has_its_own(self):
        self.idle("out def f(p num)\np = 1\nend\nout def g(p num)\nend", (1, 11, "unread"), (4, 11, "unused"))


class BehindTest(Idles):
    def test_behind_a_give(self):
        self.in_def("give 1\nsay 1\nsay 2", (3, 1, "behind"))
        self.in_def("say 1\ngive p", (4, 1, "behind"))
        self.idle("out def f()\ngive\nend")

    def test_among_rows_within_rows(self):
        self.in_def("if q\ngive 1\nsay 1\nelse\nsay 2\nend", (4, 1, "behind"))
        self.in_def("if q\nsay 1\nelse\ngive 1\n  say 1\nend", (6, 3, "behind"))
        self.in_def("while q\ngive 1\nsay 1\nend", (4, 1, "behind"))

    def test_once_among_the_same_rows(self):
        self.in_def("give 1\ngive 1\ngive 1", (3, 1, "behind"))
        self.in_def("give 1\nif q\ngive 2\nsay 2\nend", (3, 1, "behind"), (5, 1, "behind"))

    def test_behind_an_if_both_of_whose_sides_give(self):
        self.in_def("if q\ngive 1\nelse\ngive 2\nend", (7, 1, "behind"))
        self.in_def("if q\nsay 1\ngive 1\nelse\nif q\ngive 2\nelse\ngive 3\nend\nend\nsay 3", (12, 1, "behind"))
        self.in_def("if q\ngive 1\nsay 1\nelse\ngive 2\nend", (4, 1, "behind"), (8, 1, "behind"))

    def test_behind_an_if_of_whose_sides_just_one_gives(self):
        self.in_def("if q\ngive 1\nend")
        self.in_def("if q\ngive 1\nelse\nend")
        self.in_def("if q\ngive 1\nelse\nsay 1\nend")
        self.in_def("if q\nelse\ngive 1\nend")
        self.in_def("if q\ngive 1\nelse\nif q\ngive 2\nend\nend")
        self.in_def("if q\ngive 1\nelse\nwhile q\ngive 2\nend\nend")

    def test_behind_a_while_that_gives(self):
        self.in_def("while q\ngive 1\nend")

    def test_each_kind_of_row(self):
        for row, column in (("let n = p\nsay n", 5), ("p = 1", 1), ("if q\nsay 1\nend", 1), ("while q\nend", 1),
                            ("give 1", 1), ("say 1", 1), ("do f(1, no)", 1)):
            self.in_def("give 1\n" + row, (3, column, "behind"))


class KnownTest(Idles):
    def test_numbers_truths_and_consts(self):
        for worth in ("yes", "no", "1 < 2", "not (1 + 2 * 3 = 7 mod -4) or no", "c", "not c and d < 3", "b.k = d"):
            for what in ("if", "while"):
                self.idle("use b\nconst c = yes\nconst d = 1\nout def f()\nsay c\nsay d\n  " + what + " " + worth +
                          "\nsay 1\nend\nend", (7, 3, "known"))

    def test_what_is_not_known(self):
        for worth in ("k", "b.s", "p", "n = 1", "g()", "b.f(1) = 1", "c and g()", "no and k", "p and c"):
            for what in ("if", "while"):
                head = "use b\nconst c = yes\nkeep k = no\nout def f(p yes)\nlet n = 1\nsay c\nsay k\nsay p\nsay n\n"
                self.idle(head + what + " " + worth + "\nsay 1\nend\nend\nout def g() yes\ngive k\nend")

    def test_within_rows(self):
        self.in_def("if q\nwhile yes\nsay 1\nend\nelse\nif no\nsay 2\nend\nend", (3, 1, "known"), (7, 1, "known"))


class IdleTest(Idles):
    def test_sets_of_a_name_to_itself(self):
        self.in_def("p = p", (2, 1, "idle"))
        self.in_def("  q = ((q))", (2, 3, "idle"))
        self.in_def("let n = 1\nn = n", (3, 1, "idle"))
        self.idle("keep k = 1\nout def f()\nk = k\nend", (3, 1, "idle"))

    def test_sets_of_a_name_to_itself_within_more(self):
        self.in_def("p = p + 0")
        self.in_def("p = --p")
        self.in_def("q = q or q")
        self.in_def("let n = p\np = n\nn = p")
        self.idle("use b\nkeep k = 1\nout def f()\nk = b.k\nsay k\nend")

    def test_names_of_one_word_in_two_files(self):
        self.idle("use b\nout keep s = no\nout def f()\ns = b.s\nend")

    def test_ifs_without_rows(self):
        self.in_def("if q\nend", (2, 1, "idle"))
        self.in_def("if q\nelse\nend", (2, 1, "idle"))
        self.in_def("if q\nif q\nend\nend", (3, 1, "idle"))

    def test_ifs_with_rows_and_whiles(self):
        self.in_def("if q\nelse\nsay 1\nend")
        self.in_def("if q\nsay 1\nend")
        self.in_def("while q\nend")


class AllTest(Idles):
    def test_several_at_one_place(self):
        self.in_def("give 1\nif yes\nend", (3, 1, "behind"), (3, 1, "idle"), (3, 1, "known"))
        self.in_def("give 1\np = p", (3, 1, "behind"), (3, 1, "idle"))
        self.in_def("give 1\nlet n = 1", (3, 5, "behind"), (3, 5, "unused"))

    def test_rising(self):
        self.idle("def g(p num)\nif no\nend\nend\nout def f()\ngive\nlet n = 1\nend\nconst c = 1",
                  (1, 5, "unused"), (1, 7, "unused"), (2, 1, "idle"), (2, 1, "known"), (7, 5, "behind"),
                  (7, 5, "unused"), (9, 7, "unused"))
        for number in range(30):
            house = made_house(number)
            for file in house:
                told = idle_of(house, file)
                self.assertEqual(sorted(told), told)
                self.assertEqual(len(set(told)), len(told))

    def test_nothing(self):
        self.idle("")
        self.assertIs(type(idle_of({"a": ""}, "a")), list)

    def test_asked_again(self):
        self.assertEqual(told_twice(self, idle_of, {"a": "const c = 1"}, "a"), [((1, 7), "unused")])


if __name__ == "__main__":
    unittest.main()

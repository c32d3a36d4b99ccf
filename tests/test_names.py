"""[6], [7], [10]: what names are, by names_of, and what files use, by uses_of."""

import unittest

from support import fault_of, told_twice
from wholetongue.names import names_of, uses_of

B = "out const k = 1\nconst kk = 2\nout keep s = 3\nkeep ss = 4\nout def f(x num) num\nend\ndef ff()\nend"


def text(*rows):
    return "\n".join(rows)


class Names(unittest.TestCase):
    def refused(self, house, file, place, why):
        for function in (names_of, uses_of):
            for asked in house:
                self.assertEqual(
                    fault_of(function, house, asked), ("names", file, place, why), house
                )

    def refused_alone(self, rows, place, why, b=B):
        self.refused({"a": rows, "b": b}, "a", place, why)

    def told(self, *rows, b=B):
        return names_of({"a": text(*rows), "b": b}, "a")

    def fine(self, *rows, b=B):
        self.assertIs(type(self.told(*rows, b=b)), list)


class WhatTest(Names):
    def test_no_names(self):
        self.assertEqual(self.told(""), [])
        self.assertEqual(self.told("use b"), [])

    def test_what_a_file_tells(self):
        self.assertEqual(self.told("const n = 1", "out keep m = 2", "def f()", "end"), [
            ((1, 7), "n", ("const", "a", "n")), ((2, 10), "m", ("keep", "a", "m")),
            ((3, 5), "f", ("def", "a", "f")),
        ])

    def test_parts_and_lets_are_counted_in_each_def(self):
        self.assertEqual(self.told(
            "def f(p num, q yes)", "let r = p", "if q", "let s = r", "else", "let t = 1", "end", "let u = 2",
            "end", "def g(q num)", "let p = q", "end",
        ), [
            ((1, 5), "f", ("def", "a", "f")), ((1, 7), "p", ("part", 0)), ((1, 14), "q", ("part", 1)),
            ((2, 5), "r", ("let", 0)), ((2, 9), "p", ("part", 0)),
            ((3, 4), "q", ("part", 1)),
            ((4, 5), "s", ("let", 1)), ((4, 9), "r", ("let", 0)),
            ((6, 5), "t", ("let", 2)), ((8, 5), "u", ("let", 3)),
            ((10, 5), "g", ("def", "a", "g")), ((10, 7), "q", ("part", 0)),
            ((11, 5), "p", ("let", 0)), ((11, 9), "q", ("part", 0)),
        ])

    def test_names_of_used_files(self):
        self.assertEqual(self.told(
            "use b", "const n = b.k", "def g()", "say b.s + b . f(n, b.k)", "do b.f(1)", "end",
        ), [
            ((2, 7), "n", ("const", "a", "n")), ((2, 11), "b.k", ("const", "b", "k")),
            ((3, 5), "g", ("def", "a", "g")),
            ((4, 5), "b.s", ("keep", "b", "s")), ((4, 11), "b.f", ("def", "b", "f")),
            ((4, 17), "n", ("const", "a", "n")), ((4, 20), "b.k", ("const", "b", "k")),
            ((5, 4), "b.f", ("def", "b", "f")),
        ])

    def test_names_that_are_set(self):
        self.assertEqual(self.told("keep m = 1", "def f(p num)", "m = p", "p = m", "let q = 1", "q = q", "end")[3:], [
            ((3, 1), "m", ("keep", "a", "m")), ((3, 5), "p", ("part", 0)),
            ((4, 1), "p", ("part", 0)), ((4, 5), "m", ("keep", "a", "m")),
            ((5, 5), "q", ("let", 0)), ((6, 1), "q", ("let", 0)), ((6, 5), "q", ("let", 0)),
        ])

    def test_names_within_each_kind_of_row_and_worth(self):
        told = self.told(
            "def f(p num)", "while not p = -p", "if p < f(p + f(p))", "give p", "end", "say p mod (p)", "end",
            "do f(p)", "give", "end",
        )
        self.assertEqual([place for place, _, _ in told], [
            (1, 5), (1, 7), (2, 11), (2, 16), (3, 4), (3, 8), (3, 10), (3, 14), (3, 16), (4, 6), (6, 5),
            (6, 12), (8, 4), (8, 6),
        ])
        self.assertEqual({what for _, name, what in told if name == "p"}, {("part", 0)})
        self.assertEqual({what for _, name, what in told if name == "f"}, {("def", "a", "f")})

    def test_names_are_told_in_the_text_s_turn(self):
        told = self.told("use b", "def f(p num)", "let q = b.f(p) + (p - b.k) * f(b.s)", "end")
        self.assertEqual(sorted(told), told)

    def test_the_same_name_in_several_defs_and_files(self):
        self.fine("const k = 1", "def f(x num)", "let y = 1", "end", "def g(x num)", "let y = 1", "end")
        self.fine("use b", "const b = b.k", "def f(s num)", "say b + s + b.s", "end")


class LetTest(Names):
    def test_a_let_is_seen_to_the_end_of_its_rows(self):
        self.fine("def f()", "let n = 1", "say n", "if n = 1", "say n", "while n = 2", "n = n", "end",
                  "else", "say n", "end", "give n", "end")

    def test_a_let_is_not_seen_in_its_own_worth(self):
        self.refused_alone("def f()\nlet n = n\nend", (2, 9), "unknown")
        self.refused_alone("def f()\nlet n = 1 + f(n)\nend", (2, 15), "unknown")

    def test_a_let_is_not_seen_ahead_of_its_row(self):
        self.refused_alone("def f()\nsay n\nlet n = 1\nend", (2, 5), "unknown")
        self.refused_alone("def f()\nn = 1\nlet n = 1\nend", (2, 1), "unknown")
        self.refused_alone("def f()\nwhile yes\nsay n\nlet n = 1\nend\nend", (3, 5), "unknown")

    def test_a_let_is_not_seen_out_of_its_rows(self):
        self.refused_alone("def f()\nif yes\nlet n = 1\nend\nsay n\nend", (5, 5), "unknown")
        self.refused_alone("def f()\nif yes\nlet n = 1\nelse\nsay n\nend\nend", (5, 5), "unknown")
        self.refused_alone("def f()\nwhile yes\nlet n = 1\nend\nn = 2\nend", (5, 1), "unknown")
        self.refused_alone("def f()\nlet n = 1\nend\ndef g()\nsay n\nend", (5, 5), "unknown")
        self.refused_alone("def f(n num)\nend\ndef g()\nsay n\nend", (4, 5), "unknown")

    def test_a_let_is_not_seen_in_a_while_s_own_worth(self):
        self.refused_alone("def f()\nwhile n = 1\nlet n = 1\nend\nend", (2, 7), "unknown")


class FixedTest(Names):
    def test_own_consts_told_ahead(self):
        self.fine("const n = 1", "const m = n + n", "keep k = n or m")

    def test_own_consts_told_later(self):
        self.refused_alone("const n = m\nconst m = 1", (1, 11), "unknown")
        self.refused_alone("keep n = 1 + m\nconst m = 1", (1, 14), "unknown")
        self.refused_alone("const n = n", (1, 11), "unknown")
        self.refused_alone("const n = m()\nconst m = 1", (1, 11), "unknown")

    def test_consts_told_later_in_a_def(self):
        self.fine("def f()", "say n", "say m", "do g()", "end", "const n = 1", "keep m = 1", "def g()", "end")

    def test_what_is_no_const_in_a_fixed_worth(self):
        for what in ("const", "keep"):
            self.refused_alone("keep m = 1\n" + what + " n = m", (2, 6 + len(what)), "fixed")
            self.refused_alone(what + " n = m\nkeep m = 1", (1, 6 + len(what)), "fixed")
            self.refused_alone("use b\n" + what + " n = b.s", (2, 6 + len(what)), "fixed")
            self.refused_alone(what + " n = f()\ndef f() num\nend", (1, 6 + len(what)), "fixed")
            self.refused_alone("use b\n" + what + " n = b.f(1)", (2, 6 + len(what)), "fixed")
        self.refused_alone("keep n = n", (1, 10), "fixed")

    def test_a_call_ahead_of_fixed(self):
        self.refused_alone("const n = f\ndef f() num\nend", (1, 11), "call")
        self.refused_alone("use b\nkeep n = b.f", (2, 10), "call")
        self.refused_alone("keep m = 1\nconst n = m()", (2, 11), "call")
        self.refused_alone("const m = 1\nconst n = m()", (2, 11), "call")

    def test_sets_of_what_is_fixed(self):
        self.refused_alone("const n = 1\ndef f()\nn = 1\nend", (3, 1), "fixed")
        self.refused_alone("def f()\nf = 1\nend", (2, 1), "fixed")
        self.refused_alone("def f()\nn = 1\nend\nconst n = 1", (2, 1), "fixed")


class CallTest(Names):
    def test_calls_of_no_def(self):
        self.refused_alone("const n = 1\ndef f()\nsay n()\nend", (3, 5), "call")
        self.refused_alone("keep n = 1\ndef f()\ndo n(1)\nend", (3, 4), "call")
        self.refused_alone("def f(n num)\nsay 1 + n()\nend", (2, 9), "call")
        self.refused_alone("def f()\nlet n = 1\nsay n()\nend", (3, 5), "call")
        self.refused_alone("use b\ndef f()\nsay b.k()\nend", (3, 5), "call")
        self.refused_alone("use b\ndef f()\nsay b.s()\nend", (3, 5), "call")

    def test_defs_that_are_not_called(self):
        self.refused_alone("def f()\nsay f\nend", (2, 5), "call")
        self.refused_alone("use b\ndef f()\nsay 1 + b.f\nend", (3, 9), "call")


class UnknownTest(Names):
    def test_names_that_are_not_there(self):
        self.refused_alone("const n = m", (1, 11), "unknown")
        self.refused_alone("def f()\nsay m\nend", (2, 5), "unknown")
        self.refused_alone("def f()\ndo m()\nend", (2, 4), "unknown")
        self.refused_alone("def f()\nm = 1\nend", (2, 1), "unknown")
        self.refused_alone("use b\ndef f()\nsay k\nend", (3, 5), "unknown")

    def test_files_that_are_not_used(self):
        self.refused_alone("def f()\nsay b.k\nend", (2, 5), "unknown")
        self.refused_alone("const n = c.k", (1, 11), "unknown")
        self.refused_alone("const n = 1\nconst m = a.n", (2, 11), "unknown")
        self.refused_alone("def f(b num)\nsay b.k\nend", (2, 5), "unknown")
        self.refused({"a": "use b\nconst n = c.k", "b": "use c", "c": "out const k = 1"}, "a", (2, 11), "unknown")

    def test_what_a_used_file_does_not_show(self):
        for name in ("kk", "ss", "m", "x", "b"):
            self.refused_alone("use b\ndef f()\nsay b." + name + "\nend", (3, 5), "unknown")
        self.refused_alone("use b\ndef f()\ndo b.ff()\nend", (3, 4), "unknown")

    def test_places_in_rows_with_more_blanks(self):
        self.refused_alone("use b\ndef f()\n  say 1 +  b . kk\nend", (3, 12), "unknown")


class TwiceTest(Names):
    def test_uses(self):
        self.refused_alone("use b, b", (1, 8), "twice")
        self.refused_alone("use b\nuse b", (2, 5), "twice")

    def test_names_of_a_file(self):
        told = (("const m = 1", 7), ("keep m = 1", 6), ("def m()\nend", 5))
        for first, _ in told:
            for second, column in told:
                row = 2 + first.count("\n")
                self.refused_alone(first + "\n" + second, (row, column), "twice")

    def test_out_or_not(self):
        self.refused_alone("out const n = 1\nkeep n = 1", (2, 6), "twice")

    def test_names_of_a_def(self):
        self.refused_alone("def f(n num, n yes)\nend", (1, 14), "twice")
        self.refused_alone("def f(n num)\nlet n = 1\nend", (2, 5), "twice")
        self.refused_alone("def f()\nlet n = 1\nlet n = 1\nend", (3, 5), "twice")
        self.refused_alone("def f()\nif yes\nlet n = 1\nelse\nlet n = 1\nend\nend", (5, 5), "twice")
        self.refused_alone("def f()\nwhile yes\nlet n = 1\nend\nlet n = 1\nend", (5, 5), "twice")

    def test_names_of_a_def_that_are_the_file_s(self):
        self.refused_alone("def f(f num)\nend", (1, 7), "twice")
        self.refused_alone("const n = 1\ndef f(n num)\nend", (2, 7), "twice")
        self.refused_alone("def f(n num)\nend\nkeep n = 1", (1, 7), "twice")
        self.refused_alone("def f()\nlet g = 1\nend\ndef g()\nend", (2, 5), "twice")

    def test_the_second_of_several(self):
        self.refused_alone("const n = 1\nconst n = 2\nconst n = 3", (2, 7), "twice")


class UseTest(Names):
    def test_files_that_are_not_there(self):
        self.refused_alone("use c", (1, 5), "use")
        self.refused_alone("use b, c", (1, 8), "use")
        self.refused_alone("use c, c", (1, 5), "use")

    def test_rings(self):
        self.refused_alone("use a", (1, 5), "ring")
        self.refused({"a": "use b", "b": "use a"}, "a", (1, 5), "ring")
        self.refused({"a": "use d\nuse b", "b": "use c", "c": "use a", "d": ""}, "a", (2, 5), "ring")

    def test_what_leads_to_a_ring_is_in_none(self):
        self.refused({"a": "use b", "b": "use c", "c": "use b"}, "b", (1, 5), "ring")
        self.refused({"a": "use b", "b": "use b"}, "b", (1, 5), "ring")

    def test_uses_that_lead_to_a_file_that_is_not_there(self):
        self.refused({"a": "use b", "b": "use d"}, "b", (1, 5), "use")
        self.refused({"a": "use b", "b": "use d, a"}, "a", (1, 5), "ring")

    def test_several_ways_to_a_file_are_no_ring(self):
        house = {"a": "use b, c", "b": "use d", "c": "use b, d", "d": ""}
        self.assertEqual([uses_of(house, file) for file in "abcd"], [("b", "c"), ("d",), ("b", "d"), ()])

    def test_uses_in_their_turn(self):
        self.assertEqual(uses_of({"a": "use c\nuse b, d", "b": "", "c": "", "d": ""}, "a"), ("c", "b", "d"))
        self.assertIs(type(uses_of({"a": ""}, "a")), tuple)

    def test_files_with_the_names_of_own_words_and_things(self):
        self.assertEqual(uses_of({"use": "use b", "b": "const b = 1"}, "use"), ("b",))


class FirstTest(Names):
    def test_the_first_place(self):
        self.refused_alone("def f()\nsay 1 + m\nsay n\nend\nconst f = 1", (2, 9), "unknown")
        self.refused_alone("def f()\nsay m()\nn = 1\nend", (2, 5), "unknown")
        self.refused_alone("use b, c, b\nconst n = m", (1, 8), "use")
        self.refused_alone("def f(p num)\nlet p = q\nend", (2, 5), "twice")
        self.refused_alone("def f()\nlet m = q\nlet m = 1\nend", (2, 9), "unknown")

    def test_the_first_place_in_a_row(self):
        self.refused_alone("def f()\nsay (f + (m)) * q()\nend", (2, 6), "call")
        self.refused_alone("def f()\nm = f\nend", (2, 1), "unknown")
        self.refused_alone("def f()\ndo m(q)\nend", (2, 4), "unknown")
        self.refused_alone("def f()\nsay f(m, q)\nend", (2, 7), "unknown")

    def test_the_first_why_at_one_place(self):
        self.refused_alone("use c\nuse b, b", (1, 5), "use")
        self.refused({"a": "use a, a"}, "a", (1, 5), "ring")
        self.refused({"a": "use b\nuse a, b", "b": ""}, "a", (2, 5), "ring")
        self.refused_alone("const n = f\ndef f()\nend", (1, 11), "call")

    def test_files_rise(self):
        house = {"b": "const n = m", "a": "use b\nconst n = b.n"}
        self.refused(house, "a", (2, 11), "unknown")
        self.refused({"b": "const n = m", "a": "", "c": "use c"}, "b", (1, 11), "unknown")

    def test_kinds_and_worths_are_not_looked_at(self):
        house = {"a": "const n = 1 + yes\nconst m = 1 / 0\ndef f(p num) num\ngive f()\nend"}
        self.assertEqual(len(names_of(house, "a")), 5)
        self.assertEqual(uses_of(house, "a"), ())


class AgainTest(Names):
    def test_asked_again(self):
        house = {"a": "use b\nkeep n = b.k\ndef g(p num)\nlet q = p\nend", "b": B}
        self.assertEqual(len(told_twice(self, names_of, house, "a")), 6)
        self.assertEqual(told_twice(self, uses_of, house, "a"), ("b",))


if __name__ == "__main__":
    unittest.main()

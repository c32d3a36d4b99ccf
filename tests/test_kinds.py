"""[8]: kinds, by kinds_of."""

import unittest

from support import fault_of, told_twice
from wholetongue.worths import kinds_of

HEAD = (
    "use b\n"
    "keep t = yes\n"
    "def n(x num, y yes) num\ngive x\nend\n"
    "def w() yes\ngive t\nend\n"
    "def q()\nend\n"
)
ROWS = HEAD.count("\n")
B = "out const k = 1\nout keep s = no\nout def f(x yes) yes\ngive x\nend\nout def g(x num)\nend"


class Kinds(unittest.TestCase):
    def kinds(self, text):
        """The kinds of what stands in the last row, in a def of kind num, behind HEAD."""
        told = kinds_of({"a": HEAD + "def o(i num, j yes) num\n" + text + "\ngive 1\nend", "b": B}, "a")
        return [(place[1], kind) for place, kind in told if place[0] == ROWS + 2]

    def refused(self, text, row, column, kind="num"):
        """A refusal in a def behind HEAD, its rows counted from the one behind the def's own."""
        whole = HEAD + ("def o(i num, j yes) " + kind).strip() + "\n" + text + "\nend"
        place = (ROWS + 1 + row, column)
        self.assertEqual(fault_of(kinds_of, {"a": whole, "b": B}, "a"), ("kinds", "a", place, "kinds"), text)

    def fine(self, text, kind="num"):
        whole = HEAD + ("def o(i num, j yes) " + kind).strip() + "\n" + text + "\nend"
        self.assertIsNone(fault_of(kinds_of, {"a": whole, "b": B}, "a"), text)


class ToldTest(Kinds):
    def test_singles(self):
        self.assertEqual(self.kinds("say 1"), [(5, "num")])
        self.assertEqual(self.kinds("say yes"), [(5, "yes")])
        self.assertEqual(self.kinds("say i"), [(5, "num")])
        self.assertEqual(self.kinds("say j"), [(5, "yes")])
        self.assertEqual(self.kinds("say t"), [(5, "yes")])
        self.assertEqual(self.kinds("say b.k"), [(5, "num")])
        self.assertEqual(self.kinds("say b.s"), [(5, "yes")])

    def test_each_ahead_of_those_within(self):
        self.assertEqual(self.kinds("say 1 + i * 2 < 3"), [
            (15, "yes"), (7, "num"), (5, "num"), (11, "num"), (9, "num"), (13, "num"), (17, "num"),
        ])
        self.assertEqual(self.kinds("say not (j or -i = 1)"), [
            (5, "yes"), (12, "yes"), (10, "yes"), (18, "yes"), (15, "num"), (16, "num"), (20, "num"),
        ])

    def test_calls(self):
        self.assertEqual(self.kinds("say n(i, b.f(w()))"), [
            (5, "num"), (7, "num"), (10, "yes"), (14, "yes"),
        ])
        self.assertEqual(self.kinds("do q()"), [(4, "")])
        self.assertEqual(self.kinds("do b.g(1)"), [(4, ""), (8, "num")])
        self.assertEqual(self.kinds("do n(1, yes)"), [(4, "num"), (6, "num"), (9, "yes")])

    def test_all_worths_of_a_file(self):
        house = {"a": "const c = 1\nkeep d = c < 2\ndef f() num\nlet e = d\nif e\nsay 1\nelse\nsay no\nend\n"
                      "while e\ne = no\nend\ngive\nend"}
        house["a"] = house["a"].replace("give\n", "give c\n")
        self.assertEqual(kinds_of(house, "a"), [
            ((1, 11), "num"), ((2, 12), "yes"), ((2, 10), "num"), ((2, 14), "num"), ((4, 9), "yes"),
            ((5, 4), "yes"), ((6, 5), "num"), ((8, 5), "yes"), ((10, 7), "yes"), ((11, 5), "yes"),
            ((13, 6), "num"),
        ])

    def test_none(self):
        self.assertEqual(kinds_of({"a": "def f()\ngive\nend"}, "a"), [])

    def test_kinds_of_lets_and_of_what_is_told_later(self):
        text = "def f()\nlet x = k\nlet y = x = 1\nlet z = g()\nsay y\nsay z\nend\n"
        text += "const k = 1\ndef g() yes\ngive no\nend"
        told = dict(kinds_of({"a": text}, "a"))
        self.assertEqual([told[(5, 5)], told[(6, 5)], told[(2, 9)]], ["yes", "yes", "num"])

    def test_asked_again(self):
        self.assertEqual(told_twice(self, kinds_of, {"a": "const c = 1"}, "a"), [((1, 11), "num")])


class SignsTest(Kinds):
    def test_numbers(self):
        for sign in ("+", "-", "*", "/", "mod"):
            self.assertEqual(self.kinds("say 1 " + sign + " 2"), [(7, "num"), (5, "num"), (8 + len(sign), "num")])
            self.refused("say yes " + sign + " 2", 1, 5)
            self.refused("say 1 " + sign + " yes", 1, 8 + len(sign))
            self.refused("say yes " + sign + " no", 1, 5)

    def test_orders(self):
        for sign in ("<", "<="):
            self.assertEqual(self.kinds("say 1 " + sign + " 2")[0], (7, "yes"))
            self.refused("say yes " + sign + " 2", 1, 5)
            self.refused("say 1 " + sign + " yes", 1, 8 + len(sign))
            self.refused("say yes " + sign + " no", 1, 5)

    def test_two_of_one_kind(self):
        for sign in ("=", "<>"):
            self.assertEqual(self.kinds("say 1 " + sign + " 2")[0], (7, "yes"))
            self.assertEqual(self.kinds("say j " + sign + " no")[0], (7, "yes"))
            self.refused("say 1 " + sign + " yes", 1, 8 + len(sign))
            self.refused("say j " + sign + " 1", 1, 8 + len(sign))

    def test_truths(self):
        for sign in ("or", "and"):
            self.assertEqual(self.kinds("say j " + sign + " no")[0], (7, "yes"))
            self.refused("say i " + sign + " no", 1, 5)
            self.refused("say j " + sign + " 1", 1, 8 + len(sign))
            self.refused("say 1 " + sign + " 1", 1, 5)

    def test_ahead(self):
        self.assertEqual(self.kinds("say not j"), [(5, "yes"), (9, "yes")])
        self.assertEqual(self.kinds("say -i"), [(5, "num"), (6, "num")])
        self.refused("say not i", 1, 9)
        self.refused("say -j", 1, 6)

    def test_names_of_other_files(self):
        self.refused("say b.k and yes", 1, 5)
        self.refused("say 1 + b.s", 1, 9)
        self.refused("say -b.f(yes)", 1, 6)
        self.refused("say t + 1", 1, 5)


class RowsTest(Kinds):
    def test_if_and_while(self):
        for what in ("if", "while"):
            self.fine(what + " j\nend")
            self.refused(what + " i\nend", 1, 2 + len(what))
            self.refused(what + " q()\nend", 1, 2 + len(what))
            self.refused(what + " 1 + 2\nend", 1, 4 + len(what))

    def test_let(self):
        self.fine("let z = 1")
        self.fine("let z = j")
        self.refused("let z = q()", 1, 9)
        self.refused("let z = yes\nsay z + 1", 2, 5)

    def test_set(self):
        self.fine("i = 1\nj = no\nt = no\nlet z = i\nz = 2")
        self.refused("i = yes", 1, 5)
        self.refused("j = 1", 1, 5)
        self.refused("t = i", 1, 5)
        self.refused("let z = no\nz = 2", 2, 5)
        self.refused("i = q()", 1, 5)

    def test_give(self):
        self.fine("give 1")
        self.fine("give j", kind="yes")
        self.fine("give", kind="")
        self.refused("give j", 1, 6)
        self.refused("give i", 1, 6, kind="yes")
        self.refused("give", 1, 1)
        self.refused("say 1\n  give", 2, 3, kind="yes")
        self.refused("give i", 1, 6, kind="")
        self.refused("give q()", 1, 6, kind="")
        self.refused("give q()", 1, 6)

    def test_say(self):
        self.fine("say 1\nsay no\nsay n(1, no)")
        self.refused("say q()", 1, 5)
        self.refused("say b.g(1)", 1, 5)

    def test_do(self):
        self.fine("do q()\ndo b.g(1)\ndo n(1, yes)\ndo b.f(no)")

    def test_defs_may_come_to_their_end(self):
        self.fine("")
        self.fine("if j\ngive 1\nend")

    def test_consts_and_keeps(self):
        for what in ("const", "keep"):
            column = len(what) + 6
            for worth, at in (("1 + yes", 4), ("not 1", 4), ("1 = no", 4), ("-yes", 1), ("no < 1", 0)):
                house = {"a": what + " c = " + worth}
                self.assertEqual(fault_of(kinds_of, house, "a"), ("kinds", "a", (1, column + at), "kinds"))


class CallsTest(Kinds):
    def test_counts(self):
        self.refused("do q(1)", 1, 4)
        self.refused("say n()", 1, 5)
        self.refused("say 1 + n(1)", 1, 9)
        self.refused("do n(1, yes, 2)", 1, 4)
        self.refused("do b.g()", 1, 4)
        self.refused("do b.f(yes, yes)", 1, 4)

    def test_kinds_of_parts(self):
        self.refused("do n(yes, yes)", 1, 6)
        self.refused("do n(1, 1)", 1, 9)
        self.refused("do n(yes, 1)", 1, 6)
        self.refused("say b.f(1)", 1, 9)
        self.refused("do n(q(), yes)", 1, 6)
        self.refused("do n(1, w() = 1)", 1, 15)

    def test_without_kind(self):
        self.refused("say 1 + q()", 1, 9)
        self.refused("say q() = 1", 1, 5)
        self.refused("say 1 = q()", 1, 9)
        self.refused("say q() = q()", 1, 5)
        self.refused("say not q()", 1, 9)
        self.refused("say q() or j", 1, 5)
        self.refused("do n(1, q())", 1, 9)


class FirstTest(Kinds):
    def test_those_within_ahead(self):
        self.refused("say 1 + (yes + (2 + no))", 1, 21)
        self.refused("say yes + (1 + no)", 1, 16)
        self.refused("say (yes + 1) + (1 + no)", 1, 6)
        self.refused("say (1 + no) + yes", 1, 10)

    def test_a_call_s_worths_ahead_of_its_count_ahead_of_their_kinds(self):
        self.refused("do n(yes, -no, 3)", 1, 12)
        self.refused("do n(yes)", 1, 4)
        self.refused("do n(yes, 1 + 1)", 1, 6)
        self.refused("do n(q(), w(1))", 1, 11)
        self.refused("do n(yes, n(1))", 1, 11)

    def test_a_worth_ahead_of_its_row(self):
        self.refused("if 1 + yes\nend", 1, 8)
        self.refused("if 1\nsay -yes\nend", 1, 4)
        self.refused("i = -yes", 1, 6)
        self.refused("give -yes", 1, 7, kind="")
        self.refused("let z = q(1)", 1, 9)

    def test_rows_in_turn(self):
        self.refused("if j\nsay -yes\nend\nsay -no", 2, 6)
        self.refused("while j\nif j\nelse\ngive\nend\nend\ngive yes", 4, 1)
        self.refused("say 1\nsay -no\nlet z = -yes", 2, 6)

    def test_told_in_turn(self):
        house = {"a": "def f()\nsay -yes\nend\nconst c = -yes"}
        self.assertEqual(fault_of(kinds_of, house, "a")[2], (2, 6))
        house = {"a": "const c = 1\nkeep d = not c\ndef f()\nsay -yes\nend"}
        self.assertEqual(fault_of(kinds_of, house, "a")[2], (2, 14))


if __name__ == "__main__":
    unittest.main()

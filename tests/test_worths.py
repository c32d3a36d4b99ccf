"""[9], [10]: worths of consts and keeps, by worths_of, and what files show, by face_of."""

import unittest

from support import fault_of, told_twice
from wholetongue.worths import face_of, worths_of

MOST = 1000000000000
GREAT = "999999 * 999999 * 2"


class Worths(unittest.TestCase):
    def worth(self, text, *ahead):
        """The worth of an E as a const and as a keep; rows may stand ahead."""
        rows = list(ahead) + ["const x = " + text, "keep y = " + text]
        consts, keeps = worths_of({"a": "\n".join(rows)}, "a")
        self.assertEqual(consts[-1][0], "x")
        self.assertEqual(consts[-1][1:], keeps[-1][1:])
        self.assertIs(type(consts[-1][2]), int)
        return consts[-1][2]

    def refused(self, text, column, why, *ahead):
        for what in ("const", "keep"):
            rows = "\n".join(list(ahead) + [what + " x = " + text])
            place = (len(ahead) + 1, column + len(what) + 5)
            self.assertEqual(fault_of(worths_of, {"a": rows}, "a"), ("consts", "a", place, why), text)


class SignsTest(Worths):
    def test_numbers(self):
        self.assertEqual(self.worth("0"), 0)
        self.assertEqual(self.worth("999999"), 999999)
        self.assertEqual(self.worth("2 + 3 * 4 - 5"), 9)
        self.assertEqual(self.worth("10 - 3 - 2"), 5)
        self.assertEqual(self.worth("-3"), -3)
        self.assertEqual(self.worth("--3"), 3)
        self.assertEqual(self.worth("-(2 + 3)"), -5)

    def test_rounding_down(self):
        for first, second in ((7, 2), (-7, 2), (7, -2), (-7, -2), (6, 3), (-6, 3), (0, -3), (-1, 9)):
            told = "({}) / ({})".format(first, second)
            self.assertEqual(self.worth(told), first // second, told)
            told = "({}) mod ({})".format(first, second)
            self.assertEqual(self.worth(told), first % second, told)
        self.assertEqual([self.worth("-7 / 2"), self.worth("-7 mod 2"), self.worth("7 mod -2")], [-4, 1, -1])

    def test_truths_are_one_and_nought(self):
        self.assertEqual(self.worth("yes"), 1)
        self.assertEqual(self.worth("no"), 0)
        self.assertEqual(self.worth("not no"), 1)
        self.assertEqual(self.worth("not yes"), 0)

    def test_comparing(self):
        for first in (1, 2, 3):
            for sign, wanted in (("=", first == 2), ("<>", first != 2), ("<", first < 2), ("<=", first <= 2)):
                self.assertEqual(self.worth("{} {} 2".format(first, sign)), int(wanted))
        self.assertEqual(self.worth("yes = no"), 0)
        self.assertEqual(self.worth("no = no"), 1)
        self.assertEqual(self.worth("no <> yes"), 1)

    def test_or_and_and(self):
        for first in ("yes", "no"):
            for second in ("yes", "no"):
                both = first == second == "yes"
                self.assertEqual(self.worth(first + " and " + second), int(both))
                self.assertEqual(self.worth(first + " or " + second), int("yes" in (first, second)))

    def test_seconds_that_are_not_wanted(self):
        self.assertEqual(self.worth("no and 1 / 0 = 1"), 0)
        self.assertEqual(self.worth("yes or 1 mod 0 = 1"), 1)
        self.assertEqual(self.worth("no and " + GREAT + " < 1"), 0)
        self.assertEqual(self.worth("1 < 2 or (no or 1 / 0 = 1)"), 1)
        self.assertEqual(self.worth("no and 1 / 0 = 1 or yes"), 1)
        self.refused("yes and 1 / 0 = 1", 11, "nought")
        self.refused("no or 1 / 0 = 1", 9, "nought")


class FaultsTest(Worths):
    def test_nought(self):
        self.refused("1 / 0", 3, "nought")
        self.refused("1 mod 0", 3, "nought")
        self.refused("0 / 0", 3, "nought")
        self.refused("1 + 2 / (3 - 3)", 7, "nought")
        self.refused("-(1 / -0)", 5, "nought")

    def test_great(self):
        # 999999 * 1000001 is 999999999999.
        close = "999999 * (999999 + 2)"
        self.assertEqual(self.worth(close), MOST - 1)
        self.assertEqual(self.worth(close + " + 1"), MOST)
        self.refused(close + " + 2", len(close) + 2, "great")
        self.assertEqual(self.worth("-(" + close + ") - 1"), -MOST)
        self.refused("-(" + close + ") - 2", len(close) + 5, "great")
        self.assertEqual(self.worth("(999999 + 1) * (999999 + 1)"), MOST)
        self.assertEqual(self.worth("(999999 + 1) * (-999999 - 1)"), -MOST)
        self.refused("(999999 + 1) * (999999 + 2)", 14, "great")
        self.refused("(999999 + 1) * -(999999 + 2)", 14, "great")
        self.refused("1 - (0 - 999999 * 999999) + 999999 * 999999", 27, "great")

    def test_great_on_the_way(self):
        self.refused("999999 * 999999 * 999999 / 999999 / 999999", 17, "great")
        most = "(999999 + 1) * (999999 + 1)"
        self.assertEqual(self.worth("-(" + most + ")"), -MOST)
        self.assertEqual(self.worth(most + " / -1"), -MOST)
        self.assertEqual(self.worth(most + " mod -7"), MOST % -7)

    def test_the_first_fault(self):
        self.refused("1 / 0 + 2 mod 0", 3, "nought")
        self.refused("(1 + 2 mod 0) / 0", 8, "nought")
        self.refused("2 mod 0", 3, "nought", "const a = 1", "keep b = a")
        text = "keep a = 1 / 0\nconst b = 2 mod 0"
        self.assertEqual(fault_of(worths_of, {"a": text}, "a"), ("consts", "a", (1, 12), "nought"))

    def test_what_defs_do_is_not_worked_out(self):
        self.assertEqual(worths_of({"a": "def f()\nsay 1 / 0\nend"}, "a"), ([], []))


class ToldTest(Worths):
    def test_consts_and_keeps_in_the_text_s_turn(self):
        text = "keep z = 4\nconst b = 1\nout const a = b + 1\nout keep y = no\ndef f()\nend\nconst c = a < b"
        self.assertEqual(worths_of({"a": text}, "a"), (
            [("b", "num", 1, False), ("a", "num", 2, True), ("c", "yes", 0, False)],
            [("z", "num", 4, False), ("y", "yes", 0, True)],
        ))

    def test_consts_of_consts(self):
        self.assertEqual(self.worth("b * b + a", "const a = 3", "const b = a * a"), 84)

    def test_consts_of_used_files(self):
        house = {"a": "use b, c\nconst n = b.k * c.k", "b": "use c\nout const k = c.k + 1",
                 "c": "const h = 4\nout const k = h"}
        self.assertEqual(worths_of(house, "a"), ([("n", "num", 20, False)], []))
        house = {"a": "use b\nkeep n = not b.k or b.k", "b": "out const k = yes"}
        self.assertEqual(worths_of(house, "a"), ([], [("n", "yes", 1, False)]))

    def test_a_fault_in_a_used_file(self):
        house = {"a": "use b\nconst n = 1 / b.k", "b": "out const k = 0"}
        self.assertEqual(fault_of(worths_of, house, "b"), ("consts", "a", (2, 13), "nought"))

    def test_nothing(self):
        told = worths_of({"a": ""}, "a")
        self.assertEqual(told, ([], []))
        self.assertEqual([type(told), type(told[0]), type(told[1])], [tuple, list, list])

    def test_asked_again(self):
        house = {"a": "const n = 1\nout keep m = n"}
        self.assertEqual(
            told_twice(self, worths_of, house, "a"), ([("n", "num", 1, False)], [("m", "num", 1, True)])
        )
        self.assertEqual(told_twice(self, face_of, house, "a"), [("m", "keep", "num")])


class FaceTest(unittest.TestCase):
    def test_what_is_out_alone_rising(self):
        text = (
            "out def z(p num, q yes) yes\ngive q\nend\nout const m = 7\nconst l = 1\nout keep b = no\n"
            "keep k = 1\ndef d()\nend\nout def a()\nend\nout const c = no\nout keep h = 1"
        )
        told = face_of({"a": text}, "a")
        self.assertEqual(told, [
            ("a", "def", (), ""), ("b", "keep", "yes"), ("c", "const", "yes", False), ("h", "keep", "num"),
            ("m", "const", "num", 7), ("z", "def", ("num", "yes"), "yes"),
        ])

    def test_truths(self):
        told = face_of({"a": "out const a = yes\nout const b = 1\nout const c = no\nout const d = 0"}, "a")
        self.assertEqual([type(one[3]) for one in told], [bool, int, bool, int])
        self.assertEqual([one[3] for one in told], [True, 1, False, 0])

    def test_nothing(self):
        self.assertEqual(face_of({"a": "const a = 1", "b": "out const b = 1"}, "a"), [])

    def test_used_files_are_not_shown(self):
        house = {"a": "use b\nout const m = b.k", "b": "out const k = 5"}
        self.assertEqual(face_of(house, "a"), [("m", "const", "num", 5)])


if __name__ == "__main__":
    unittest.main()

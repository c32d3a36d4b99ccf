"""[11], [12], [13]: rows of cells, by middle_of, done and held against the texts as they are read."""

import unittest

from doing import do_rows, read_texts
from making import made_house
from rows import check_no_cell_unlaid, check_rows, defs_of, keeps_of
from support import places, told_twice
from wholetongue.middle import middle_of
from wholetongue.tree import tree_of


def text(*rows):
    return "\n".join(rows)


class Middles(unittest.TestCase):
    def run_both(self, house, start, given=(), most=300):
        """What is said, and how it ends: the same by the rows as by the texts."""
        by_rows = do_rows(defs_of(house), keeps_of(house), start, given, most)
        by_text = read_texts(house, start, given, most)
        self.assertEqual(by_rows.all(), by_text.all())
        self.assertEqual([type(worth) for worth in by_rows.said], [type(worth) for worth in by_text.said])
        self.begun = [place for _, _, place, _, _, _ in by_rows.begun]
        return by_rows.said, by_rows.end

    def ends(self, rows, said, end, given=(), most=300, b="", start="f"):
        """What a def f of a file a, perhaps with a file b, says, and how it ends."""
        house = {"a": rows, "b": b}
        self.assertEqual(self.run_both(house, ("a", start), given, most), (said, end))

    def says(self, worth, *said, head=""):
        """What a say of an E in a def f says."""
        self.ends(head + "\ndef f()\nsay " + worth + "\nend", list(said), ("end", None))

    def names(self, *rows):
        one = middle_of({"a": text(*rows)}, "a")[0]
        return [(name, first, last) for name, _, _, first, last in one[5]]


class FormTest(Middles):
    def test_what_is_told_of_defs(self):
        house = {"a": text(
            "def g(p num, q yes) num", "let r = q", "give p", "end", "const c = 1", "out def f()", "end",
            "def h() yes", "end",
        )}
        told = middle_of(house, "a")
        self.assertIs(type(told), list)
        self.assertEqual([one[:4] for one in told], [
            ("g", ("num", "yes"), "num", False), ("f", (), "", True), ("h", (), "yes", False),
        ])
        self.assertEqual([len(one) for one in told], [6, 6, 6])
        self.assertEqual({type(one) for one in told}, {tuple})
        self.assertIs(type(told[0][5]), tuple)
        self.assertEqual(middle_of({"a": "const c = 1"}, "a"), [])

    def test_parts_are_in_the_first_cells(self):
        one = middle_of({"a": "def f(p num, q yes)\nlet r = p\nend"}, "a")[0]
        self.assertEqual([(name, kind, cell) for name, kind, cell, _, _ in one[5]][:2],
                         [("p", "num", 0), ("q", "yes", 1)])

    def test_rows_of_many_houses(self):
        for number in range(60):
            house = made_house(number)
            for file in house:
                tree = tree_of(house[file])
                known = set(places(tree))
                defs = [one for one in tree[1] if one[0] == "def"]
                for one, told in zip(defs, middle_of(house, file)):
                    self.check_def(one, told, known)

    def check_def(self, one, told, known):
        rows, names = told[4], told[5]
        check_rows(self, rows)
        check_no_cell_unlaid(self, len(told[1]), rows)
        self.assertIn(rows[-1][0], ("give", "nothing"))
        # One begin for each row of the def's text, of those behind a give, too.
        begun = sorted(row[1] for row in rows if row[0] == "begin")
        self.assertEqual(begun, sorted(self.rows_that_begin(one[6])))
        self.assertTrue({row[-1] for row in rows} <= known)
        cells = [cell for _, _, cell, _, _ in names]
        self.assertEqual(len(set(cells)), len(cells))
        self.assertEqual(cells[:len(told[1])], list(range(len(told[1]))))

    def rows_that_begin(self, rows):
        found = []
        for row in rows:
            found.append(row[1])
            if row[0] in ("if", "while"):
                for block in row[3:]:
                    found += self.rows_that_begin(block)
        return found

    def test_asked_again(self):
        house = {"a": "def f(p num)\nlet q = p\nsay q\nend"}
        self.assertEqual(len(told_twice(self, middle_of, house, "a")), 1)


class WorthsTest(Middles):
    def test_numbers_and_truths(self):
        self.says("0", 0)
        self.says("999999", 999999)
        self.says("yes", True)
        self.says("no", False)

    def test_signs(self):
        for first, second in ((7, 2), (2, 7), (3, 3), (0, 5)):
            for sign in ("+", "-", "*", "/", "mod", "=", "<>", "<", "<="):
                for ahead, behind in (("", ""), ("-", ""), ("", "-"), ("-", "-")):
                    worth = "{}{} {} {}{}".format(ahead, first, sign, behind, second)
                    left, right = [int(part.replace("--", "")) for part in (ahead + str(first), behind + str(second))]
                    wanted = {
                        "+": left + right, "-": left - right, "*": left * right, "/": left // right,
                        "mod": left % right, "=": left == right, "<>": left != right, "<": left < right,
                        "<=": left <= right,
                    }[sign]
                    self.says(worth, wanted)

    def test_truths_compared(self):
        self.says("yes = yes", True)
        self.says("yes = no", False)
        self.says("no <> yes", True)
        self.says("(1 < 2) = (2 < 1)", False)

    def test_turned(self):
        self.says("not yes", False)
        self.says("not not yes", True)
        self.says("--5", 5)
        self.says("-(2 - 5) * 2", 6)

    def test_or_and_and(self):
        head = "def t(n num) yes\nsay n\ngive yes\nend\ndef u(n num) yes\nsay n\ngive no\nend"
        self.says("t(1) or t(2)", 1, True, head=head)
        self.says("u(1) or t(2)", 1, 2, True, head=head)
        self.says("u(1) or u(2)", 1, 2, False, head=head)
        self.says("t(1) and t(2)", 1, 2, True, head=head)
        self.says("u(1) and t(2)", 1, False, head=head)
        self.says("t(1) and u(2)", 1, 2, False, head=head)
        self.says("u(1) and t(2) or t(3)", 1, 3, True, head=head)
        self.says("t(1) or t(2) and t(3)", 1, True, head=head)
        self.says("u(1) or t(2) and not u(3)", 1, 2, 3, True, head=head)
        self.says("not (u(1) or u(2)) and (u(3) or t(4))", 1, 2, 3, 4, True, head=head)

    def test_from_left_to_right(self):
        head = "keep k = 0\ndef n(p num) num\nk = k * 10 + p\ngive p\nend"
        rows = head + "\ndef f()\nsay {}\nsay k\nend"
        self.ends(rows.format("n(1) - n(2) * n(3)"), [-5, 123], ("end", None))
        self.ends(rows.format("k + n(4) + k"), [8, 4], ("end", None))
        self.ends(rows.format("n(1) <= n(2)"), [True, 12], ("end", None))
        self.ends(rows.format("n(2) + n(n(3) - n(n(1) - 1))"), [5, 23103], ("end", None))

    def test_consts_and_keeps(self):
        self.ends("use b\nconst c = 5\nkeep k = c + 1\ndef f()\nsay c * k + b.c - b.k\nsay b.t\nend",
                  [28, True], ("end", None), b="out const c = 7\nout keep k = 9\nout keep t = yes")


class SetsTest(Middles):
    def test_lets_parts_and_keeps(self):
        rows = text("keep k = 3", "def f(p num) num", "let l = p + k", "k = l * 2", "p = k - l", "l = p", "say p",
                    "say k", "give l", "end")
        self.ends(rows, [5, 10], ("end", 5), given=(2,))

    def test_sets_of_a_name_by_itself(self):
        rows = text("keep k = yes", "def f(p num, q yes)", "p = p + p * p", "q = not q", "say p", "say q",
                    "q = (q or k) and not q", "say q", "k = not k and q", "say k", "p = p", "say p", "end")
        self.ends(rows, [6, False, True, False, 6], ("end", None), given=(2, 1))

    def test_what_is_set_stays_while_its_worth_is_worked_out(self):
        rows = text("def f() num", "let p = 1", "p = p + g(p) * p", "give p", "end",
                    "def g(x num) num", "x = x + 4", "give x", "end")
        self.ends(rows, [], ("end", 6))
        rows = text("def f() yes", "let p = yes", "p = not p or p and t(p)", "give p", "end",
                    "def t(x yes) yes", "say x", "give x", "end")
        self.ends(rows, [True], ("end", True))

    def test_keeps_of_used_files(self):
        rows = text("use b", "def f() num", "do b.more(2)", "say b.k", "let old = b.k", "do b.more(3)",
                    "give old * b.k", "end")
        b = "out keep k = 1\nout def more(n num)\nk = k + n\nend"
        self.ends(rows, [3], ("end", 18), b=b)

    def test_keeps_of_one_name_in_several_files(self):
        rows = text("use b", "out keep k = 1", "def f()", "k = 5", "do b.set()", "say k", "say b.k", "end")
        self.ends(rows, [5, 7], ("end", None), b="out keep k = 2\nout def set()\nk = 7\nend")


class BlocksTest(Middles):
    def test_if(self):
        rows = text("def f(p num)", "if p < 2", "say 1", "end", "if p = 2", "say 2", "else", "say 3", "say 4", "end",
                    "say 5", "end")
        self.ends(rows, [1, 3, 4, 5], ("end", None), given=(1,))
        self.assertEqual(self.begun, [(2, 1), (3, 1), (5, 1), (8, 1), (9, 1), (11, 1)])
        self.ends(rows, [2, 5], ("end", None), given=(2,))

    def test_blocks_without_rows(self):
        self.ends("def f()\nif yes\nend\nif no\nelse\nend\nwhile no\nend\nsay 1\nend", [1], ("end", None))
        self.ends("def f()\nif no\nelse\nsay 1\nend\nif yes\nelse\nsay 2\nend\nend", [1], ("end", None))
        self.ends("def f()\nend", [], ("end", None))

    def test_while(self):
        rows = text("def f(p num)", "while 0 < p", "say p", "p = p - 1", "end", "say 9", "end")
        self.ends(rows, [2, 1, 9], ("end", None), given=(2,))
        self.assertEqual(self.begun, [(2, 1), (3, 1), (4, 1), (2, 1), (3, 1), (4, 1), (2, 1), (6, 1)])
        self.ends(rows, [9], ("end", None), given=(0,))

    def test_blocks_within_blocks(self):
        rows = text("def f(p num)", "let n = 0", "while n < p", "n = n + 1", "let m = 0", "while m < n", "m = m + 1",
                    "if m = n", "say n * m", "else", "if n mod 2 = 1", "say m", "end", "end", "end", "end", "end")
        self.ends(rows, [1, 4, 1, 2, 9], ("end", None), given=(3,))

    def test_give_within_blocks(self):
        rows = text("def f(p num) num", "while yes", "if p = 3", "give p * 2", "end", "p = p + 1", "end", "end")
        self.ends(rows, [], ("end", 6), given=(0,))
        rows = text("def f(p yes)", "if p", "give", "end", "say 1", "give", "end")
        self.ends(rows, [], ("end", None), given=(1,))
        self.ends(rows, [1], ("end", None), given=(0,))

    def test_rows_behind_a_give(self):
        rows = text("def f() num", "give 1", "let n = 2", "say n", "while n < 5", "n = n + 1", "end", "give n", "end")
        self.ends(rows, [], ("end", 1))
        told = middle_of({"a": rows}, "a")[0]
        self.assertEqual(sorted(row[1][0] for row in told[4] if row[0] == "begin"), [2, 3, 4, 5, 6, 8])

    def test_an_if_all_of_whose_ways_give(self):
        rows = text("def f(p yes) num", "if p", "give 1", "else", "give 2", "end", "say 3", "end")
        self.ends(rows, [], ("end", 1), given=(1,))
        self.ends(rows, [], ("end", 2), given=(0,))
        told = middle_of({"a": rows}, "a")[0]
        self.assertEqual(sorted(row[1][0] for row in told[4] if row[0] == "begin"), [2, 3, 5, 7])


class CallsTest(Middles):
    def test_kinds_that_are_given(self):
        rows = text("def f() yes", "say g() + 1", "say h()", "do h()", "do g()", "do i()", "give h()", "end",
                    "def g() num", "give 4", "end", "def h() yes", "give yes", "end", "def i()", "say 0", "give", "end")
        self.ends(rows, [5, True, 0], ("end", True))

    def test_parts(self):
        rows = text("def f()", "say g(1, 2, yes) - g(g(3, 4, no), 5, no)", "end", "def g(x num, y num, z yes) num",
                    "if z", "give x * 10 + y", "end", "give x - y", "end")
        self.ends(rows, [18], ("end", None))

    def test_each_call_has_cells_of_its_own(self):
        rows = text("def f(n num) num", "let m = n", "if 0 < n", "let k = f(n - 1)", "say m", "m = m + k", "end",
                    "give m", "end")
        self.ends(rows, [1, 2, 3], ("end", 6), given=(3,))

    def test_calls_of_used_files(self):
        rows = "use b\ndef f() num\ngive b.f(3) + g()\nend\ndef g() num\ngive 100\nend"
        self.ends(rows, [], ("end", 107), b="out def f(n num) num\ngive n + g()\nend\ndef g() num\ngive 4\nend")

    def test_thirty_two_calls_under_way(self):
        rows = "def f(n num) num\nif n = 0\ngive 0\nend\ngive 1 + f(n - 1)\nend"
        self.ends(rows, [], ("end", 31), given=(31,))
        self.ends(rows, [], ("fault", "deep", "a", (5, 10)), given=(32,))
        rows = "def f(n num)\nsay n\ndo  f(n + 1)\nend"
        self.ends(rows, list(range(1, 33)), ("fault", "deep", "a", (3, 5)), given=(1,))

    def test_a_call_s_parts_are_worked_out_ahead_of_deep(self):
        rows = "def f(n num)\ndo f(n / (32 - n) * 0 + n + 1)\nend"
        self.ends(rows, [], ("fault", "nought", "a", (2, 8)), given=(1,))
        rows = "def f(n num)\ndo f(n / (33 - n) * 0 + n + 1)\nend"
        self.ends(rows, [], ("fault", "deep", "a", (2, 4)), given=(1,))

    def test_calls_one_behind_the_other_are_not_deep(self):
        rows = "def f()\nlet n = 0\nwhile n < 40\nn = g(n)\nend\nend\ndef g(n num) num\ngive n + 1\nend"
        self.ends(rows, [], ("end", None))

    def test_deep_through_files(self):
        rows = "use b\ndef f(n num) num\nif n = 0\ngive b.g(30)\nend\ngive f(n - 1)\nend"
        b = "out def g(n num) num\nif n = 0\ngive 5\nend\ngive g(n - 1)\nend"
        self.ends(rows, [], ("end", 5), given=(0,), b=b)
        self.ends(rows, [], ("fault", "deep", "b", (5, 6)), given=(1,), b=b)


class FaultsTest(Middles):
    def test_nought(self):
        self.ends("def f(p num) num\nsay 1\ngive 7 / p\nend", [1], ("fault", "nought", "a", (3, 8)), given=(0,))
        self.ends("def f(p num) num\ngive 7 mod (p - p)\nend", [], ("fault", "nought", "a", (2, 8)), given=(3,))
        self.ends("def f()\nif 1 / 0 = 1\nend\nend", [], ("fault", "nought", "a", (2, 6)))

    def test_great(self):
        rows = "keep k = 999999\ndef f(p num) num\nlet n = k * (k + p)\nsay n\nsay n + 1\ngive n + 2\nend"
        self.ends(rows, [999999999999, 1000000000000], ("fault", "great", "a", (6, 8)), given=(2,))
        rows = rows.replace("k * (k + p)", "-(k * (k + p))").replace("n +", "n -")
        self.ends(rows, [-999999999999, -1000000000000], ("fault", "great", "a", (6, 8)), given=(2,))
        self.ends("def f(p num)\nwhile yes\np = p * 10\nend\nend", [], ("fault", "great", "a", (3, 7)), given=(1,))

    def test_the_first_fault(self):
        self.ends("def f()\nsay 1 / 0 + g()\nend\ndef g() num\nsay 1\nend", [], ("fault", "nought", "a", (2, 7)))
        self.ends("def f()\nsay g() + 1 / 0\nend\ndef g() num\nsay 1\nend", [1], ("fault", "nothing", "a", (6, 1)))

    def test_faults_that_are_not_come_to(self):
        self.ends("def f()\nsay no and 1 / 0 = 1\nsay yes or 1 / 0 = 1\nend", [False, True], ("end", None))

    def test_nothing(self):
        rows = text("def f(p num) num", "if p = 1", "give 5", "end", "  end")
        self.ends(rows, [], ("end", 5), given=(1,))
        self.ends(rows, [], ("fault", "nothing", "a", (5, 3)), given=(0,))
        self.ends("def f() yes\nend", [], ("fault", "nothing", "a", (2, 1)))
        self.ends("use b\ndef f()\ndo b.g()\nend", [1], ("fault", "nothing", "b", (4, 2)),
                  b="out def g() num\nsay 1\n\n end")

    def test_tired(self):
        rows = "def f()\nwhile yes\nsay 1\nend\nend"
        self.ends(rows, [1] * 5, ("fault", "tired", "a", (2, 1)), most=10)
        self.ends(rows, [1] * 5, ("fault", "tired", "a", (3, 1)), most=11)
        self.ends("def f()\nsay 1\nsay 2\nend", [1, 2], ("end", None), most=2)
        self.ends("def f()\nsay 1\n  n = 2\nend\nkeep n = 1", [1], ("fault", "tired", "a", (3, 3)), most=1)


class NamesTest(Middles):
    def test_parts(self):
        self.assertEqual(self.names("", "def f(p num, q yes)", "", "say 1", "", "end"), [("p", 2, 6), ("q", 2, 6)])
        self.assertEqual(self.names("def f(p num)", "end"), [("p", 1, 2)])

    def test_lets(self):
        self.assertEqual(self.names("def f()", "let n = 1", "say n", "say 2", "end"), [("n", 3, 4)])
        self.assertEqual(self.names("def f()", "let n = 1", "", "say 2", "# 1", "end"), [("n", 3, 4)])

    def test_the_last_row_of_a_block(self):
        self.assertEqual(self.names("def f()", "let n = 1", "end"), [("n", 3, 2)])
        self.assertEqual(
            self.names("def f()", "if yes", "say 1", "let n = 1", "else", "say 1", "end", "say 2", "end"), [("n", 5, 4)]
        )
        self.assertEqual(self.names("def f()", "let n = 1", "let m = 2", "end"), [("n", 3, 3), ("m", 4, 3)])

    def test_lets_within_blocks(self):
        rows = ("def f()", "if yes", "let a = 1", "say a", "else", "let b = 2", "say b", "say b", "end",
                "while yes", "let c = 3", "c = 2", "end", "say 1", "end")
        self.assertEqual(self.names(*rows), [("a", 4, 4), ("b", 7, 8), ("c", 12, 12)])

    def test_rows_within_those_among_which_a_let_stands(self):
        rows = ("def f()", "let a = 1", "if yes", "let b = 2", "while yes", "say b", "if no", "else", "say 2", "end",
                "end", "end", "end")
        self.assertEqual(self.names(*rows), [("a", 3, 9), ("b", 5, 9)])

    def test_blocks_at_the_end_without_rows(self):
        self.assertEqual(self.names("def f()", "let a = 1", "if yes", "end", "end"), [("a", 3, 3)])
        self.assertEqual(self.names("def f()", "let a = 1", "if yes", "let b = 1", "else", "end", "end"), [
            ("a", 3, 4), ("b", 5, 4),
        ])

    def test_kinds_and_turn(self):
        one = middle_of({"a": "def f(p yes, q num)\nif p\nlet a = q\nend\nlet b = p\nend"}, "a")[0]
        self.assertEqual([(name, kind) for name, kind, _, _, _ in one[5]], [
            ("p", "yes"), ("q", "num"), ("a", "num"), ("b", "yes"),
        ])

    def test_none(self):
        self.assertEqual(middle_of({"a": "def f()\nend"}, "a")[0][5], ())


class ManyTest(Middles):
    def test_many_houses(self):
        ends = {}
        for number in range(120):
            house = made_house(number)
            for (file, name), one in defs_of(house).items():
                given = [(number + at) % 4 if kind == "num" else number % 2 for at, kind in enumerate(one[1])]
                end = self.run_both(house, (file, name), given, most=150)[1]
                word = end[1] if end[0] == "fault" else "end"
                ends[word] = ends.get(word, 0) + 1
        self.assertTrue({"end", "nought", "great", "deep", "tired", "nothing"} <= set(ends), ends)


if __name__ == "__main__":
    unittest.main()

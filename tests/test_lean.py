"""[25]: rows made fewer, by lean_of, done ahead of that and behind."""

import unittest

from doing import do_rows
from handmade import HandMaker
from making import made_house
from rows import check_no_cell_unlaid, check_rows, defs_of, keeps_of
from support import told_twice
from wholetongue.lean import lean_of
from wholetongue.middle import middle_of

P = (1, 1)


class Leans(unittest.TestCase):
    def check(self, before, after):
        """All that can be seen of lean rows without doing them."""
        self.assertEqual(before[:4] + before[5:], after[:4] + after[5:])
        rows, fewer = before[4], after[4]
        check_rows(self, fewer)
        check_no_cell_unlaid(self, len(after[1]), fewer)
        self.assertLessEqual(len(fewer), len(rows))
        self.assertEqual(lean_of(after), after)
        places = [row[-1] for row in rows]
        for row in fewer:
            self.assertTrue(row in rows or row[0] in ("put", "go") and row[-1] in places, row)
        self.assertIn(fewer[-1][0], ("give", "nothing", "go"))
        led = [row[-2] for row in fewer if row[0] in ("go", "unless")]
        for at, row in enumerate(fewer):
            if row[0] == "label":
                self.assertIn(row[1], led)
            if at > 0 and fewer[at - 1][0] in ("go", "give", "nothing"):
                self.assertEqual(row[0], "label")
            if row[0] == "go":
                self.assertNotIn(row[1], self.labels_from(fewer, at + 1))

    def labels_from(self, rows, at):
        found = []
        while at < len(rows) and rows[at][0] == "label":
            found.append(rows[at][1])
            at += 1
        return found

    def same(self, defs, keeps, start, given=(), most=150):
        """Done alike, with just this def lean and with all lean; what is told of the run."""
        before = do_rows(defs, keeps, start, given, most).all()
        one = {**defs, start: lean_of(defs[start])}
        self.assertEqual(do_rows(one, keeps, start, given, most).all(), before)
        every = {key: lean_of(told) for key, told in defs.items()}
        self.assertEqual(do_rows(every, keeps, start, given, most).all(), before)
        return before

    def lean(self, *rows, parts=(), kind="", names=()):
        """The lean rows of a def by hand, checked."""
        before = ("f", parts, kind, True, tuple(rows), tuple(names))
        after = lean_of(before)
        self.check(before, after)
        return list(after[4])

    def lean_text(self, *rows):
        """The lean rows of the first def of a text, checked."""
        before = middle_of({"a": "\n".join(rows)}, "a")[0]
        after = lean_of(before)
        self.check(before, after)
        return list(after[4])

    def stays(self, *rows, parts=(), kind="", names=()):
        self.assertEqual(self.lean(*rows, parts=parts, kind=kind, names=names), list(rows))


class HandTest(Leans):
    def test_rows_that_stay(self):
        self.stays(("begin", P), ("give", None, P))
        self.stays(("nothing", P), kind="num")
        self.stays(("begin", P), ("unless", 0, 1, P), ("begin", (2, 1)), ("label", 1, P), ("say", "yes", 0, P),
                   ("give", None, P), parts=("yes",))

    def test_rows_behind_a_go_a_give_and_a_nothing(self):
        for row in (("give", None, P), ("go", 1, P)):
            rows = [("label", 1, P), ("begin", P), row, ("begin", (2, 2)), ("put", 0, 1, P), ("give", None, P)]
            self.assertNotIn(("begin", (2, 2)), self.lean(*rows))
        rows = self.lean(("nothing", P), ("begin", P), ("label", 1, P), ("begin", P), ("go", 1, P), kind="num")
        self.assertEqual(rows, [("nothing", P)])
        rows = self.lean(("label", 1, P), ("begin", P), ("go", 1, P), ("give", None, (2, 2)))
        self.assertEqual(rows, [("label", 1, P), ("begin", P), ("go", 1, P)])

    def test_labels_that_nothing_leads_to(self):
        rows = self.lean(("label", 3, P), ("begin", P), ("label", 4, P), ("label", 1, P), ("give", None, P))
        self.assertEqual(rows, [("begin", P), ("give", None, P)])

    def test_labels_that_only_rows_lead_to_that_none_comes_to(self):
        rows = self.lean(("begin", P), ("give", None, P), ("label", 1, P), ("begin", P), ("go", 1, P),
                         ("label", 2, P), ("go", 1, P))
        self.assertEqual(rows, [("begin", P), ("give", None, P)])

    def test_ways_to_the_label_right_behind(self):
        rows = self.lean(("go", 1, P), ("label", 1, P), ("begin", P), ("give", None, P))
        self.assertEqual(rows, [("begin", P), ("give", None, P)])
        rows = self.lean(("unless", 0, 1, P), ("go", 2, P), ("label", 1, P), ("label", 2, P), ("give", None, P),
                         parts=("yes",))
        self.assertEqual(rows, [("give", None, P)])
        rows = self.lean(("go", 1, P), ("begin", P), ("label", 1, P), ("give", None, P))
        self.assertEqual(rows, [("give", None, P)])

    def test_ways_by_other_ways(self):
        rows = self.lean(
            ("label", 1, P), ("begin", P), ("unless", 0, 2, P), ("begin", (2, 2)), ("go", 3, (2, 2)),
            ("label", 2, P), ("begin", (3, 3)), ("label", 3, P), ("go", 1, P), parts=("yes",),
        )
        self.assertIn(("go", 1, (2, 2)), rows)
        self.assertNotIn(("label", 3, P), rows)

    def test_ways_that_go_round(self):
        self.assertEqual(self.lean(("label", 1, P), ("go", 1, P)), [("label", 1, P), ("go", 1, P)])
        self.lean(("begin", P), ("go", 2, P), ("label", 1, P), ("go", 2, P), ("label", 2, P), ("go", 1, P))

    def test_labels_side_by_side(self):
        rows = self.lean(
            ("unless", 0, 1, P), ("begin", (2, 2)), ("go", 2, P), ("label", 3, P), ("begin", P), ("go", 1, P),
            ("label", 2, P), ("label", 1, P), ("begin", (4, 4)), ("unless", 1, 3, P), ("give", None, P),
            parts=("yes", "yes"),
        )
        self.assertEqual([row for row in rows if row[0] == "label"], [("label", 3, P), ("label", 1, P)])
        rows = self.lean(
            ("unless", 0, 1, P), ("begin", (2, 2)), ("unless", 1, 3, P), ("begin", (3, 3)), ("go", 2, (3, 3)),
            ("label", 3, P), ("begin", (4, 4)), ("label", 1, P), ("label", 2, P), ("give", None, P),
            parts=("yes", "yes"),
        )
        self.assertIn(("go", 1, (3, 3)), rows)
        self.assertNotIn(("label", 2, P), rows)

    def test_what_is_known(self):
        rows = self.lean(("put", 1, 7, P), ("put", 2, 5, P), ("times", 3, 1, 2, (2, 2)), ("take", 3, 3, 1, (3, 3)),
                         ("give", 3, P), kind="num")
        self.assertEqual(rows, [("put", 3, 28, (3, 3)), ("give", 3, P)])
        rows = self.lean(("put", 1, 7, P), ("copy", 2, 1, (2, 2)), ("less", 2, 1, 2, (3, 3)), ("give", 2, P),
                         kind="yes")
        self.assertEqual(rows, [("put", 2, 0, (3, 3)), ("give", 2, P)])

    def test_ways_that_are_known(self):
        rows = [("put", 1, 0, P), ("unless", 1, 1, (2, 2)), ("begin", P), ("label", 1, P), ("begin", (3, 3)),
                ("give", None, P)]
        self.assertEqual(self.lean(*rows), [("begin", (3, 3)), ("give", None, P)])
        rows[0] = ("put", 1, -2, P)
        self.assertEqual(self.lean(*rows), [("begin", P), ("begin", (3, 3)), ("give", None, P)])
        rows = [("label", 1, P), ("put", 1, 1, P), ("begin", P), ("unless", 1, 2, P), ("begin", (2, 2)), ("go", 1, P),
                ("label", 2, P), ("give", None, P)]
        self.assertEqual(self.lean(*rows), [("label", 1, P), ("begin", P), ("begin", (2, 2)), ("go", 1, P)])

    def test_what_is_not_known(self):
        self.stays(("put", 1, 1, P), ("label", 1, P), ("begin", P), ("unless", 1, 2, P), ("begin", (2, 2)),
                   ("same", 1, 0, 1, P), ("go", 1, P), ("label", 2, P), ("give", None, P), parts=("num",))
        self.stays(("put", 1, 1, P), ("unless", 0, 1, P), ("put", 1, 2, P), ("label", 1, P), ("say", "num", 1, P),
                   ("give", None, P), parts=("yes",))
        self.stays(("add", 0, 0, 0, P), ("give", 0, P), parts=("num",), kind="num")
        self.stays(("call", 0, "a", "g", (), P), ("unless", 0, 1, P), ("begin", P), ("label", 1, P), ("give", 0, P),
                   kind="yes")
        self.stays(("fetch", 0, "a", "k", P), ("say", "num", 0, P), ("give", None, P))

    def test_rows_that_may_be_a_fault(self):
        self.stays(("put", 1, 0, P), ("over", 2, 0, 1, P), ("give", None, P), parts=("num",))
        self.stays(("put", 1, 0, P), ("rest", 2, 1, 1, P), ("give", None, P))
        self.stays(("put", 1, 1000000000000, P), ("add", 2, 1, 1, P), ("give", None, P))
        self.stays(("times", 2, 0, 0, P), ("give", None, P), parts=("num",))

    def test_cells_that_are_not_read(self):
        rows = self.lean(("put", 1, 1, P), ("fetch", 2, "a", "k", P), ("copy", 3, 0, P), ("less", 4, 0, 3, P),
                         ("same", 5, 4, 0, P), ("begin", P), ("put", 1, 2, P), ("give", None, P), parts=("num",))
        self.assertEqual(rows, [("begin", P), ("give", None, P)])
        rows = self.lean(("put", 0, 1, P), ("begin", P), ("put", 0, 2, P), ("give", None, P), parts=("num",))
        self.assertEqual(rows, [("put", 0, 1, P), ("begin", P), ("give", None, P)])

    def test_what_others_see_stays(self):
        self.stays(("put", 0, 1, P), ("begin", P), ("give", None, P), parts=("num",))
        self.stays(("put", 1, 1, P), ("begin", (5, 5)), ("give", None, P), names=(("n", "num", 1, 2, 9),))
        self.stays(("copy", 1, 0, P), ("lay", "k", 1, P), ("copy", 2, 0, P), ("call", None, "a", "g", (2,), P),
                   ("give", None, P), parts=("num",))

    def test_copies_of_a_cell_to_itself(self):
        self.assertEqual(self.lean(("copy", 0, 0, P), ("give", 0, P), parts=("num",), kind="num"), [("give", 0, P)])

    def test_worths_that_a_cell_holds_already(self):
        rows = self.lean(("put", 0, 3, P), ("begin", P), ("put", 1, 2, P), ("put", 0, 3, P), ("give", 0, P), kind="num")
        self.assertEqual(rows, [("put", 0, 3, P), ("begin", P), ("give", 0, P)])

    def test_asked_again(self):
        one = ("f", (), "num", True, (("put", 1, 1, P), ("give", 1, P), ("nothing", P)), ())
        self.assertEqual(told_twice(self, lean_of, one)[4], (("put", 1, 1, P), ("give", 1, P)))
        self.assertIs(type(lean_of(one)), tuple)


class TextTest(Leans):
    def words(self, *rows):
        return [row[0] for row in self.lean_text(*rows)]

    def test_rows_behind_a_give(self):
        self.assertEqual(self.words("def f()", "give", "say 1", "end"), ["begin", "give"])
        self.assertEqual(self.words("def f() num", "give 1", "end"), ["begin", "put", "give"])
        self.assertEqual(self.words("def f(p yes)", "if p", "give", "else", "give", "end", "say 1", "end"),
                         ["begin", "unless", "begin", "give", "label", "begin", "give"])

    def test_an_end_by_a_go(self):
        self.assertEqual(self.words("def f()", "while yes", "say 2", "end", "end"),
                         ["label", "begin", "begin", "put", "say", "go"])

    def test_nothing_that_can_be_come_to(self):
        self.assertEqual(self.words("def f(p yes) num", "if p", "give 1", "end", "end"),
                         ["begin", "unless", "begin", "put", "give", "label", "nothing"])

    def test_consts(self):
        self.assertEqual(self.lean_text("const c = 5", "def f() num", "give -c * (c + 1) / 4", "end"),
                         [("begin", (3, 1)), ("put", 0, -8, (3, 19)), ("give", 0, (3, 1))])

    def test_lets_stay(self):
        rows = self.lean_text("def f()", "let a = 3", "let b = a", "say b", "end")
        self.assertEqual([row for row in rows if row[0] == "put"], [("put", 0, 3, (2, 9)), ("put", 1, 3, (3, 9))])


class ManyTest(Leans):
    def test_rows_by_hand(self):
        ends = {}
        g = middle_of({"a": "keep k = 4\ndef g(n num) num\nsay n\nk = k - n\ngive n * n mod 7\nend"}, "a")[0]
        for number in range(700):
            one = HandMaker(number).make()
            self.check(one, lean_of(one))
            given = [number % 3, number % 2][:len(one[1])]
            end = self.same({("a", "f"): one, ("a", "g"): g}, {("a", "k"): number % 4}, ("a", "f"), given, 60)[1]
            word = end[1] if end[0] == "fault" else "end"
            ends[word] = ends.get(word, 0) + 1
        self.assertTrue({"end", "nought", "tired", "nothing"} <= set(ends), ends)

    def test_rows_of_texts(self):
        ahead, behind = 0, 0
        for number in range(50):
            house = made_house(number)
            defs = defs_of(house)
            for start, one in defs.items():
                after = lean_of(one)
                self.check(one, after)
                ahead, behind = ahead + len(one[4]), behind + len(after[4])
                given = [(number + at) % 4 if kind == "num" else number % 2 for at, kind in enumerate(one[1])]
                self.same(defs, keeps_of(house), start, given)
        self.assertLess(behind, ahead * 4 // 5)

    def test_each_row_that_begins_stays(self):
        for number in range(50, 80):
            house = made_house(number)
            defs = defs_of(house)
            for start, one in defs.items():
                told = self.same(defs, keeps_of(house), start, [1] * len(one[1]))[2]
                begun = {place for file, name, place, *_ in told if (file, name) == start}
                left = {row[1] for row in lean_of(one)[4] if row[0] == "begin"}
                self.assertTrue(begun <= left <= {row[1] for row in one[4] if row[0] == "begin"})


if __name__ == "__main__":
    unittest.main()

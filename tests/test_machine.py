"""[17]: rows of a machine, by machine_of, done beside the rows of cells from which they come."""

import random
import unittest

from handmade import HandMaker, P
from making import made_house
from piling import World, by_cells, by_pile
from rows import defs_of
from support import told_twice
from wholetongue.lean import lean_of
from wholetongue.machine import machine_of
from wholetongue.middle import middle_of

LENGTHS = {
    "row": 2, "nothing": 2, "push": 3, "load": 3, "fetch": 4, "store": 3, "lay": 3, "jump": 3, "unless": 3,
    "call": 5, "give": 3, "say": 3,
    "add": 2, "take": 2, "times": 2, "over": 2, "rest": 2, "less": 2, "same": 2,
}


class Machines(unittest.TestCase):
    def check(self, one):
        """All that can be seen of a machine's rows without doing them."""
        before = repr(one)
        rows = told_twice(self, machine_of, one)
        self.assertEqual(repr(one), before)
        self.assertIs(type(rows), list)
        for row in rows:
            self.assertIs(type(row), tuple)
            self.assertEqual(len(row), LENGTHS[row[0]], row)
            self.assertIn(row[-1], range(len(one[4])))
            if row[0] in ("push", "load", "store", "jump", "unless", "give"):
                self.assertIs(type(row[1]), int)
            if row[0] in ("jump", "unless"):
                self.assertIn(row[1], range(len(rows)))
        numbers = [row[-1] for row in rows]
        self.assertEqual(numbers, sorted(numbers))
        return rows

    def same(self, one, given, keep=2, most=400):
        """Done by the machine as by the cells; what happened."""
        rows = self.check(one)
        worlds = World(keep), World(keep)
        told, is_all = by_cells(one, given, worlds[0], most)
        found = by_pile(self, one, rows, given, worlds[1], most * 12)
        found = found if is_all else found[:len(told)]
        self.assertEqual(len(found), len(told))
        for wanted, happened in zip(told, found):
            if wanted[0] == "row":
                self.assertEqual((wanted[0], wanted[2]), (happened[0], happened[2]))
                for cell, worth in wanted[1].items():
                    if worth is not None:
                        self.assertEqual(happened[1][cell], worth, wanted)
            else:
                self.assertEqual(wanted, happened)
        return told

    def by_hand(self, *rows, given=(), kind="", names=()):
        one = ("f", ("num",) * len(given), kind, True, rows, tuple(names))
        return self.same(one, given)


class HandTest(Machines):
    def test_each_word(self):
        self.assertEqual(self.by_hand(("give", None, P)), [("give", None, 0)])
        self.assertEqual(self.by_hand(("nothing", P), kind="num"), [("fault", "nothing", 0)])
        self.assertEqual(self.by_hand(("give", 0, P), given=(4,), kind="num"), [("give", 4, 0)])
        self.assertEqual(self.by_hand(("put", 1, -7, P), ("give", 1, P), kind="num"), [("give", -7, 1)])
        told = self.by_hand(("copy", 5, 0, P), ("say", "num", 5, P), ("say", "yes", 1, P), ("give", None, P), given=(4, 1))
        self.assertEqual(told, [("say", "num", 4, 1), ("say", "yes", 1, 2), ("give", None, 3)])
        told = self.by_hand(("fetch", 1, "b", "k", P), ("lay", "l", 1, P), ("fetch", 2, "a", "l", P), ("give", 2, P))
        self.assertEqual(told, [("fetch", "b", "k", -2, 0), ("lay", "l", -2, 1), ("fetch", "a", "l", -2, 2), ("give", -2, 3)])

    def test_which_is_the_first_of_two(self):
        for what, worth in (
            ("add", 9), ("take", 5), ("times", 14), ("over", 3), ("rest", 1), ("less", 0), ("same", 0),
        ):
            self.assertEqual(
                self.by_hand((what, 2, 0, 1, P), ("give", 2, P), given=(7, 2), kind="num"), [("give", worth, 1)],
            )
        self.assertEqual(
            self.by_hand(("over", 0, 0, 1, P), ("give", 0, P), given=(-7, 2), kind="num"), [("give", -4, 1)],
        )
        self.assertEqual(self.by_hand(("less", 1, 1, 0, P), ("give", 1, P), given=(7, 2)), [("give", 1, 1)])

    def test_faults(self):
        for what in ("over", "rest"):
            told = self.by_hand(("begin", P), (what, 2, 0, 1, P), ("give", 2, P), given=(7, 0))
            self.assertEqual(told[1:], [("fault", "nought", 1)])
        most = 1000000000000
        for what, first, second in (("add", most, 1), ("take", -most, 1), ("times", most, -2)):
            told = self.by_hand((what, 2, 0, 1, P), ("give", 2, P), given=(first, second))
            self.assertEqual(told, [("fault", "great", 0)])
        told = self.by_hand(("add", 2, 0, 1, P), ("give", 2, P), given=(most, 0))
        self.assertEqual(told, [("give", most, 1)])

    def test_calls(self):
        told = self.by_hand(("call", 2, "b", "g", (1, 0, 1), P), ("give", 2, P), given=(3, 8))
        self.assertEqual(told[0], ("call", "b", "g", (8, 3, 8), 0))
        told = self.by_hand(("call", 0, "b", "g", (), P), ("give", 0, P), given=(3,))
        self.assertEqual(told[0], ("call", "b", "g", (), 0))
        told = self.by_hand(("call", None, "a", "none", (0,) * 6, P), ("begin", P), ("give", 0, P), given=(3,))
        self.assertEqual(told[0], ("call", "a", "none", (3,) * 6, 0))

    def test_ways(self):
        rows = [
            ("begin", P), ("unless", 0, 7, P), ("say", "num", 1, P), ("go", 3, P), ("label", 7, P),
            ("say", "num", 0, P), ("label", 3, P), ("begin", P), ("give", None, P),
        ]
        for given in ((0, 5), (1, 5), (-1, 5)):
            told = self.by_hand(*rows, given=given)
            self.assertEqual(told[1], ("say", "num", 0, 5) if given[0] == 0 else ("say", "num", 5, 2))

    def test_ways_back_and_to_labels_side_by_side(self):
        told = self.by_hand(
            ("put", 1, 1, P), ("label", 9, P), ("label", 4, P), ("begin", P), ("unless", 0, 2, P), ("take", 0, 0, 1, P),
            ("go", 9, P), ("label", 2, P), ("label", 5, P), ("begin", P), ("give", 0, P), ("go", 5, P), given=(3,),
        )
        self.assertEqual([row[2] for row in told if row[0] == "row"], [3, 3, 3, 3, 9])

    def test_labels_have_their_own_numbers(self):
        rows = machine_of(("f", ("yes",), "", True, (
            ("label", 0, P), ("unless", 0, 0, P), ("label", 1, P), ("give", None, P),
        ), ()))
        self.assertEqual([row[1] for row in rows if row[0] == "unless"], [0])

    def test_a_go_at_the_end(self):
        self.by_hand(("label", 1, P), ("begin", P), ("go", 1, P))
        self.by_hand(("go", 2, P), ("label", 1, P), ("begin", P), ("give", None, P), ("label", 2, P), ("go", 1, P))

    def test_cells_with_any_numbers(self):
        told = self.by_hand(
            ("put", 999, 4, P), ("copy", 500, 999, P), ("times", 999, 500, 999, P), ("begin", P),
            ("call", 998, "a", "g", (999, 0), P), ("give", 999, P), given=(1,), names=(("n", "num", 999, 1, 1),),
        )
        self.assertEqual(told[0], ("row", {0: 1, 999: 16}, 3))
        self.assertEqual(told[1], ("call", "a", "g", (16, 1), 4))

    def test_rows_that_are_of_no_use(self):
        self.by_hand(
            ("copy", 0, 0, P), ("put", 1, 1, P), ("put", 1, 2, P), ("go", 1, P), ("label", 1, P), ("label", 2, P),
            ("begin", P), ("begin", P), ("less", 3, 1, 1, P), ("give", None, P), ("begin", P), ("nothing", P), given=(0,),
        )

    def test_a_cell_is_laid_anew_where_it_is_read(self):
        told = self.by_hand(("add", 0, 0, 0, P), ("same", 0, 0, 1, P), ("give", 0, P), given=(3, 6))
        self.assertEqual(told, [("give", 1, 2)])

    def test_what_each_row_comes_from(self):
        one = middle_of({"a": "def f(x num) num\nif x < 3\ngive f(x + 1)\nend\nend"}, "a")[0]
        rows = self.check(one)
        words = [(row[0], one[4][row[-1]][0]) for row in rows if row[0] not in ("push", "load", "store")]
        for word, middle in words:
            self.assertEqual(middle, {"row": "begin", "jump": "go"}.get(word, word))
        self.assertEqual([row[0] for row in rows].count("row"), 2)


class TextTest(Machines):
    def test_defs_without_rows(self):
        for kind, told in (("", ("give", None, 0)), ("num", ("fault", "nothing", 0))):
            one = middle_of({"a": "def f() " + kind + "\nend"}, "a")[0]
            self.assertEqual(self.same(one, ()), [told])

    def test_rows_behind_a_give(self):
        one = middle_of({"a": "def f()\ngive\nsay 1\nend"}, "a")[0]
        self.assertEqual([row[0] for row in self.check(one)].count("row"), 2)
        self.assertEqual([row[0] for row in self.same(one, ())], ["row", "give"])

    def test_names_of_no_def_matter(self):
        one = middle_of({"a": "out def f(p num)\nend"}, "a")[0]
        self.assertEqual(machine_of(one), machine_of(("g", ("yes",), "", False, one[4], ())))


class ManyTest(Machines):
    def test_rows_by_hand(self):
        happened = {}
        for number in range(600):
            one = HandMaker(number).make()
            given = [number % 3, number % 2][:len(one[1])]
            for rows in (one, self.with_other_cells(one, number), lean_of(one)):
                for told in self.same(rows, given, number % 4, 120):
                    happened[told[0]] = happened.get(told[0], 0) + 1
        self.assertEqual(set(happened), {"row", "say", "lay", "fetch", "call", "give", "fault"})

    def with_other_cells(self, one, number):
        """The same rows with other cells, but for parts."""
        many = len(one[1])
        others = list(range(many)) + random.Random(number).sample(range(many, 1000), 20)
        rows = [self.with_cells(row, others) for row in one[4]]
        return one[:4] + (tuple(rows), tuple((n, kind, others[cell], *rest) for n, kind, cell, *rest in one[5]))

    def with_cells(self, row, others):
        what = row[0]
        if what in ("put", "fetch", "unless", "give"):
            return (what, others[row[1]]) + row[2:]
        if what in ("lay", "say"):
            return (what, row[1], others[row[2]]) + row[3:]
        if what == "call":
            return (what, others[row[1]]) + row[2:4] + (tuple(others[cell] for cell in row[4]), row[5])
        if what in ("begin", "label", "go", "nothing"):
            return row
        return (what,) + tuple(others[cell] for cell in row[1:-1]) + row[-1:]

    def test_rows_of_texts(self):
        for number in range(60):
            for start, one in sorted(defs_of(made_house(number)).items()):
                self.check(one)
                self.check(lean_of(one))
                given = [(number + at) % 4 if kind == "num" else number % 2 for at, kind in enumerate(one[1])]
                self.same(self.of_the_world(one), given)
                self.same(self.of_the_world(lean_of(one)), given)

    def of_the_world(self, one):
        """The same def, whose calls and keeps are those of the World."""
        rows = []
        for row in one[4]:
            if row[0] == "call":
                row = row[:2] + ("a", "none" if row[1] is None else "g") + row[4:]
            if row[0] == "fetch":
                row = row[:2] + ("a", "k") + row[4:]
            if row[0] == "lay":
                row = ("lay", "k") + row[2:]
            rows.append(row)
        return one[:4] + (tuple(rows),) + one[5:]


if __name__ == "__main__":
    unittest.main()

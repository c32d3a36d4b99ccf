"""[24]: traced, counted, called and judged, held against a plain reading of the texts."""

import unittest

from following import Followed
from making import run_house, to_run
from support import refusal_of
from wholetongue.counts import called, counted, judged, traced
from wholetongue.errors import BadCount, NoDef
from wholetongue.link import image_of
from wholetongue.tree import tree_of

HOUSE = {
    "a": "use b\nout def f()\nlet i = 0\nwhile i < 2\ni = i + 1\ndo b.g(i)\nend\ngive\nsay 1\nend\n"
         "def idle()\nsay 2\nend",
    "b": "out def g(n num)\nif 1 < n\ndo g(n - 1)\nelse\nsay n\nend\nend\ndef none()\nend",
}
TRACE = [
    ("a", "f", 3, 1), ("a", "f", 4, 1), ("a", "f", 5, 1), ("a", "f", 6, 1), ("b", "g", 2, 2), ("b", "g", 5, 2),
    ("a", "f", 4, 1), ("a", "f", 5, 1), ("a", "f", 6, 1), ("b", "g", 2, 2), ("b", "g", 3, 2), ("b", "g", 2, 3),
    ("b", "g", 5, 3), ("a", "f", 4, 1), ("a", "f", 8, 1),
]
IMAGE = image_of(HOUSE)
ALL = (
    traced, counted, called,
    lambda image, file, name, **more: judged(image, file, name, TRACE, **more),
)


class CountsTest(unittest.TestCase):
    def test_traced(self):
        self.assertEqual(traced(IMAGE, "a", "f"), TRACE)
        for most in range(len(TRACE) + 2):
            self.assertEqual(traced(IMAGE, "a", "f", most=most), TRACE[:most])

    def test_counted(self):
        self.assertEqual(counted(IMAGE, "a", "f"), [
            ("a", 3, 1), ("a", 4, 3), ("a", 5, 2), ("a", 6, 2), ("a", 8, 1), ("a", 9, 0), ("a", 12, 0),
            ("b", 2, 3), ("b", 3, 1), ("b", 5, 2),
        ])
        self.assertEqual({many for _, _, many in counted(IMAGE, "a", "f", most=0)}, {0})

    def test_counted_rises_by_numbers(self):
        rows = [row for _, row, _ in counted(image_of({"a": "out def f()" + "\nsay 1" * 12 + "\nend"}), "a", "f")]
        self.assertEqual(rows, list(range(2, 14)))

    def test_counted_of_the_rows_of_this_image(self):
        lean = counted(image_of(HOUSE, lean=True), "a", "f")
        self.assertEqual(lean, [row for row in counted(IMAGE, "a", "f") if row[:2] != ("a", 9)])

    def test_called(self):
        self.assertEqual(called(IMAGE, "a", "f"), [
            ("a", "f", 9, 1), ("a", "idle", 0, 0), ("b", "g", 6, 3), ("b", "none", 0, 0),
        ])
        self.assertEqual(called(IMAGE, "a", "f", most=4)[2], ("b", "g", 0, 0))
        self.assertEqual(called(IMAGE, "a", "f", most=5)[2], ("b", "g", 1, 2))

    def test_a_run_without_rows(self):
        image = image_of({"a": "out def f()\nend\ndef g()\nsay 1\nend"})
        self.assertEqual(traced(image, "a", "f"), [])
        self.assertEqual(counted(image, "a", "f"), [("a", 4, 0)])
        self.assertEqual(called(image, "a", "f"), [("a", "f", 0, 0), ("a", "g", 0, 0)])
        self.assertIsNone(judged(image, "a", "f", []))
        self.assertEqual(judged(image, "a", "f", TRACE), 0)

    def test_the_most_calls(self):
        image = image_of({"a": "out def f()\ndo f()\nend"})
        self.assertEqual(traced(image, "a", "f"), [("a", "f", 2, depth) for depth in range(1, 33)])
        self.assertEqual(called(image, "a", "f"), [("a", "f", 32, 32)])

    def test_refused(self):
        for function in ALL:
            for file, name in (("a", "idle"), ("b", "g"), ("b", "none"), ("c", "f"), ("a", "x"), ("a", "")):
                self.assertIs(refusal_of(function, IMAGE, file, name), NoDef)
                self.assertIs(refusal_of(lambda: function(IMAGE, file, name, most=-1)), NoDef)
            for most in (-1, 100001, "5", True, False, None):
                self.assertIs(refusal_of(lambda: function(IMAGE, "a", "f", most=most)), BadCount)
            self.assertIsNone(refusal_of(lambda: function(IMAGE, "a", "f", most=100000)))

    def test_asked_again(self):
        before = repr(IMAGE)
        for function in ALL[:3]:
            told = function(IMAGE, "a", "f")
            known = list(told)
            told.clear()
            refusal_of(function, IMAGE, "a", "x")
            self.assertEqual(function(IMAGE, "a", "f"), known)
        self.assertEqual(repr(IMAGE), before)


class JudgedTest(unittest.TestCase):
    def test_just_these(self):
        self.assertIsNone(judged(IMAGE, "a", "f", list(TRACE)))
        self.assertIsNone(judged(IMAGE, "a", "f", TRACE[:7], most=7))

    def test_one_told_otherwise(self):
        for number, (file, name, row, depth) in enumerate(TRACE):
            for other in (("c", name, row, depth), (file, "x", row, depth), (file, name, row + 1, depth), (file, name, row, depth + 1)):
                told = list(TRACE)
                told[number] = other
                self.assertEqual(judged(IMAGE, "a", "f", told), number)
                told[-1] = other
                self.assertEqual(judged(IMAGE, "a", "f", told), number)

    def test_left_out_and_put_in(self):
        for number in range(len(TRACE)):
            self.assertEqual(judged(IMAGE, "a", "f", TRACE[:number] + TRACE[number + 1:]), number)
            self.assertEqual(judged(IMAGE, "a", "f", TRACE[:number]), number)
            self.assertEqual(judged(IMAGE, "a", "f", TRACE, most=number), number)
            self.assertEqual(judged(IMAGE, "a", "f", TRACE[:number] + [("a", "x", 1, 1)] + TRACE[number:]), number)
        self.assertEqual(judged(IMAGE, "a", "f", TRACE + [TRACE[-1]]), len(TRACE))
        self.assertEqual(judged(IMAGE, "a", "f", []), 0)

    def test_what_is_handed_in_stays(self):
        told = list(TRACE)
        judged(IMAGE, "a", "f", told)
        self.assertEqual(told, TRACE)


def rows_of_text(rows):
    """The rows of text that may begin among rows and within them."""
    found = []
    for row in rows:
        found.append(row[1][0])
        for block in row[3:] if row[0] in ("if", "while") else ():
            found += rows_of_text(block)
    return found


class ManyTest(unittest.TestCase):
    def test_made_houses(self):
        for number in range(50):
            house = run_house(number)
            trees = {file: [one for one in tree_of(house[file])[1] if one[0] == "def"] for file in sorted(house)}
            rows = sorted((file, row) for file, defs in trees.items() for one in defs for row in rows_of_text(one[6]))
            image = image_of(house)
            for file, name in to_run(house):
                known = Followed(house, file, name, 100)
                trace = [moment.calls()[0] + (len(moment.calls()),) for moment in known.moments]
                self.assertEqual(traced(image, file, name, most=100), trace)
                self.assertEqual(traced(image_of(house, lean=True), file, name, most=100), trace)
                self.assertEqual(
                    counted(image, file, name, most=100),
                    [spot + (sum((row[0], row[2]) == spot for row in trace),) for spot in rows],
                )
                told = []
                for home, defs in trees.items():
                    for one in defs:
                        depths = [row[3] for row in trace if row[:2] == (home, one[3])]
                        told.append((home, one[3], len(depths), max(depths + [0])))
                self.assertEqual(called(image, file, name, most=100), told)
                self.assertIsNone(judged(image, file, name, trace, most=100))


if __name__ == "__main__":
    unittest.main()

"""[23]: papers, and whether they lead from an image to the texts, by joined."""

import unittest

from images import read_off
from making import run_house
from support import fault_of, refusal_of
from wholetongue.errors import BadHouse
from wholetongue.lean import lean_of
from wholetongue.link import image_of
from wholetongue.machine import machine_of
from wholetongue.middle import middle_of
from wholetongue.papers import joined, papers
from wholetongue.tree import tree_of

HOUSE = {
    "b": "out keep k = 4\n\nout def g(x num) num\nk = k + x\ngive k\nend",
    "a": "use b\nconst c = 6\nout def f() num\nlet z = -b.g(b.k)\nwhile z < c and not (z = 4)\nz = z + 1\nif yes\nsay z\n"
         "else\nsay no\nend\nend\ndo b.g(z)\nend\ndef e()\nend",
}

# All words of a machine, in few rows.
SMALL = {
    "b": "keep k = 4\nout def g(x num) num\nk = k + x\nend",
    "a": "use b\ndef f()\nwhile no\nsay -b.g(2)\nend\nend",
}


def followed(tree, way):
    for at in way:
        assert type(tree) is tuple and at >= 0
        tree = tree[at]
    return tree


class Papers(unittest.TestCase):
    def check(self, house, lean=False):
        """Papers that lead, each the only one that does."""
        before = repr(house)
        told = papers(house, lean=lean)
        self.assertEqual(repr(house), before)
        self.assertIs(type(told), list)
        image = image_of(house, lean=lean)
        middle = [
            (file, lean_of(one) if lean else one) for file in sorted(house) for one in middle_of(house, file)
        ]
        self.assertEqual(len(told), len(image[1]))
        laid = read_off(image[0])
        machines = [machine_of(one) for _, one in middle]
        trees = {file: tree_of(text) for file, text in house.items()}
        wanted = [(part, row) for part, rows in enumerate(machines) for row in range(len(rows))]
        self.assertEqual([paper[1:3] for paper in told], wanted)
        for paper, (at, word, _), (spot, file, place) in zip(told, laid, image[1]):
            self.assertEqual([type(paper), len(paper), type(paper[4])], [tuple, 5, tuple])
            self.assertEqual((paper[0], file), (at, middle[paper[1]][0]))
            self.assertEqual(spot, at)
            one = middle[paper[1]][1]
            row = machines[paper[1]][paper[2]]
            self.assertEqual((row[0], row[-1]), (word, paper[3]))
            self.assertEqual(one[4][paper[3]][-1], place)
            self.assertEqual(followed(trees[file], paper[4]), place)
        self.assertIsNone(joined(house, image, told, lean=lean))
        return image, told


class PapersTest(Papers):
    def test_a_house(self):
        for lean in (False, True):
            self.check(HOUSE, lean)

    def test_ways(self):
        told = papers({"a": "use b\nkeep k = 1\ndef f()\nif 1 < k\nk = 2\nelse\nsay -k\nend\nend", "b": ""})
        ways = {paper[4] for paper in told}
        self.assertEqual(ways, {
            (1, 1, 6, 0, 1), (1, 1, 6, 0, 2, 1), (1, 1, 6, 0, 2, 2, 1), (1, 1, 6, 0, 2, 3, 1),
            (1, 1, 6, 0, 3, 0, 1), (1, 1, 6, 0, 3, 0, 3, 1), (1, 1, 6, 0, 4, 0, 1), (1, 1, 6, 0, 4, 0, 2, 1),
            (1, 1, 6, 0, 4, 0, 2, 2, 1), (1, 1, 7),
        })

    def test_ways_into_calls(self):
        told = papers({"a": "def f(x num, y num)\ndo f(x, 1 + y)\nend"})
        ways = {paper[4] for paper in told}
        self.assertEqual(ways, {(1, 0, 6, 0, 1), (1, 0, 6, 0, 2, 1), (1, 0, 6, 0, 2, 4, 1, 1), (1, 0, 6, 0, 2, 4, 1, 2, 1),
                                (1, 0, 7)})

    def test_without_defs(self):
        self.assertEqual(papers({"a": "const c = 1"}), [])
        self.assertIsNone(joined({"a": "const c = 1"}, image_of({"a": "const c = 1"}), []))
        self.assertEqual(joined({"a": "const c = 1"}, image_of({"a": "const c = 1"}), [(0, 0, 0, 0, ())]), 0)

    def test_made_houses(self):
        for number in range(40):
            self.check(run_house(number), number % 2 == 1)

    def test_asked_again(self):
        told = papers(HOUSE)
        known = list(told)
        told.clear()
        self.assertEqual(papers(HOUSE), known)


class JoinedTest(Papers):
    def setUp(self):
        self.told = {lean: papers(SMALL, lean=lean) for lean in (False, True)}
        self.images = {lean: image_of(SMALL, lean=lean) for lean in (False, True)}

    def first(self, number, lean, image=None, told=None):
        image = self.images[lean] if image is None else image
        told = self.told[lean] if told is None else told
        known = repr((image, told))
        self.assertEqual(joined(SMALL, image, told, lean=lean), number)
        self.assertEqual(repr((image, told)), known)

    def test_another_number_in_the_code(self):
        for lean in (False, True):
            code, *rest = self.images[lean]
            laid = read_off(code)
            for number, (at, _, has) in enumerate(laid):
                for spot in range(at, at + 1 + len(has)):
                    for other in (code[spot] + 1, 99):
                        changed = code[:spot] + (other,) + code[spot + 1:]
                        self.first(number, lean, (changed, *rest))

    def test_a_number_that_lacks_in_the_code(self):
        for lean in (False, True):
            code, *rest = self.images[lean]
            laid = read_off(code)
            for number, (at, _, has) in enumerate(laid):
                self.first(number, lean, (code[:at], *rest))
                if has:
                    self.first(number, lean, (code[:at + len(has)], *rest))
            self.first(0, lean, ((), *rest))

    def test_a_number_too_much_in_the_code(self):
        for lean in (False, True):
            code, *rest = self.images[lean]
            for number, (at, _, _) in enumerate(read_off(code)):
                self.first(number, lean, (code[:at] + (0,) + code[at:], *rest))

    def test_another_place(self):
        for lean in (False, True):
            code, places, *rest = self.images[lean]
            for number, (at, file, (row, column)) in enumerate(places):
                for other in (
                    (at + 1, file, (row, column)), (at, "c", (row, column)), (at, file, (row + 1, column)),
                    (at, file, (row, column - 1)),
                ):
                    changed = places[:number] + (other,) + places[number + 1:]
                    self.first(number, lean, (code, changed, *rest))
                self.first(number, lean, (code, places[:number] + places[number + 1:], *rest))
                self.first(number, lean, (code, places[:number] + ((at, "c", (1, 1)),) + places[number:], *rest))

    def test_another_paper(self):
        for lean in (False, True):
            told = self.told[lean]
            for number, paper in enumerate(told):
                for at in range(4):
                    for other in (paper[at] + 1, -1):
                        if other != paper[at]:
                            self.first(number, lean, told=self.with_paper(told, number, at, other))
                way = paper[4]
                for other in ((), way[:-1], way + (0,), way[:-1] + (way[-1] + 1,), (9,) + way[1:], (-1,) + way[1:]):
                    self.first(number, lean, told=self.with_paper(told, number, 4, other))

    def with_paper(self, told, number, at, other):
        paper = told[number]
        return told[:number] + [paper[:at] + (other,) + paper[at + 1:]] + told[number + 1:]

    def test_papers_that_lack_and_papers_too_much(self):
        for lean in (False, True):
            told = self.told[lean]
            for number in range(len(told)):
                self.first(number, lean, told=told[:number] + told[number + 1:])
                self.first(number, lean, told=told[:number])
                self.first(number + 1, lean, told=told[:number + 1] + told[number:])
            self.first(len(told), lean, told=told + [told[-1]])
            self.first(0, lean, told=[])

    def test_the_first_of_several(self):
        told = self.with_paper(self.with_paper(self.told[False], 7, 3, 0), 4, 0, 0)
        self.first(4, False, told=told)
        code, *rest = self.images[False]
        self.first(2, False, (code[:3] + (77,) + code[4:], *rest), told)

    def test_of_another_house(self):
        other = {**SMALL, "b": SMALL["b"].replace("k + x", "k - x")}
        self.assertIsNotNone(joined(SMALL, image_of(other), papers(other)))
        self.assertIsNotNone(joined(SMALL, image_of(other), papers(SMALL)))
        self.assertIsNotNone(joined(SMALL, image_of(SMALL, lean=True), papers(SMALL, lean=True)))
        self.assertIsNotNone(joined(SMALL, image_of(SMALL), papers(SMALL), lean=True))

    def test_refused(self):
        image, told = self.images[False], self.told[False]
        self.assertEqual(fault_of(papers, {"a": "?"}), ("words", "a", (1, 1), "word"))
        self.assertEqual(fault_of(joined, {"a": "const c = 1 / 0"}, image, told), ("consts", "a", (1, 13), "nought"))
        self.assertIs(refusal_of(papers, {}), BadHouse)
        self.assertIs(refusal_of(joined, {}, image, told), BadHouse)


if __name__ == "__main__":
    unittest.main()

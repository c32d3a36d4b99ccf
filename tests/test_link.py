"""[18]: images, by image_of, each table held against the texts."""

import unittest

from images import read_off
from making import made_house, run_house
from support import fault_of, is_place, refusal_of, told_twice
from wholetongue.errors import BadHouse
from wholetongue.lean import lean_of
from wholetongue.link import image_of
from wholetongue.machine import machine_of
from wholetongue.middle import middle_of
from wholetongue.names import uses_of
from wholetongue.worths import worths_of

HOUSE = {
    "b": "out keep k = 4\nconst c = yes\nout def g(x num, y yes) num\nk = k + x\ngive k\nend\ndef h()\nend",
    "a": "use b\nkeep k = 9\nkeep t = no\nout const c = 2 * 3\n"
         "out def f() num\nlet z = b.g(b.k, t)\nwhile z < c\nz = z + 1\nif t\nsay z\nelse\nt = not t\nend\nend\n"
         "k = z\ndo g()\ngive k\nend\ndef g()\nsay b.k\nsay t\nend",
    "empty": "# nothing\n",
}


class Images(unittest.TestCase):
    def rows_in_turn(self, house, lean):
        """(file, what middle_of tells of a def, a machine's row) of each code, in turn."""
        told = []
        for file in sorted(house):
            for one in middle_of(house, file):
                one = lean_of(one) if lean else one
                told.append((file, one, machine_of(one)))
        return told

    def check(self, house, lean=False):
        before = repr(house)
        image = image_of(house, lean=lean)
        self.assertEqual(repr(house), before)
        self.assertEqual(image, image_of(house, lean=lean))
        self.assertEqual([type(table) for table in image], [tuple] * 7)
        code, places, defs, keeps, consts, uses, names = image
        for table in image[1:]:
            self.assertEqual({type(row) for row in table} - {tuple}, set())
        self.assertEqual({type(number) for number in code} - {int}, set())
        self.check_lists(house, keeps, consts, uses)
        self.check_code(house, lean, image)
        return image

    def check_lists(self, house, keeps, consts, uses):
        files = sorted(house)
        for table, which in ((consts, 0), (keeps, 1)):
            self.assertEqual(
                list(table), [(file,) + one for file in files for one in worths_of(house, file)[which]],
            )
            for row in table:
                self.assertIs(type(row[3]), int)
                self.assertIs(type(row[4]), bool)
        self.assertEqual(list(uses), [(file, uses_of(house, file)) for file in files])

    def check_code(self, house, lean, image):
        code, places, defs, keeps, _, _, names = image
        told = self.rows_in_turn(house, lean)
        laid = read_off(code)
        self.assertEqual([at for at, _, _ in places], [at for at, _, _ in laid])
        ends = ([one[2] for one in defs] + [len(code)])[1:]
        self.assertEqual([one[3] for one in defs], ends)
        self.assertEqual(len(defs), len(told))
        at = 0
        all_names = []
        for number, (file, one, rows) in enumerate(told):
            name, kinds, kind, out, middle, stand = one
            self.assertEqual(defs[number][:2] + defs[number][4:7], (file, name, kinds, kind, out))
            self.assertEqual(defs[number][2], laid[at][0])
            self.check_def(image, file, middle, rows, laid[at:at + len(rows)], places[at:at + len(rows)], defs[number])
            at += len(rows)
            all_names += [(file, name) + row for row in stand]
            for _, _, cell, _, _ in stand:
                self.assertLess(cell, defs[number][7])
            self.assertLessEqual(len(kinds), defs[number][7])
        self.assertEqual(at, len(laid))
        self.assertEqual(list(names), all_names)

    def check_def(self, image, file, middle, rows, laid, places, told):
        _, _, defs, keeps, _, _, _ = image
        begins = [at for at, _, _ in laid]
        numbers = {(keep[0], keep[1]): number for number, keep in enumerate(keeps)}
        for row, (at, word, has), place in zip(rows, laid, places):
            self.assertEqual(word, row[0])
            self.assertEqual(place, (at, file, middle[row[-1]][-1]))
            self.assertTrue(is_place(place[2]))
            if word in ("jump", "unless"):
                self.assertEqual(has, (begins[row[1]],))
            elif word == "fetch":
                self.assertEqual(has, (numbers[row[1], row[2]],))
            elif word == "lay":
                self.assertEqual(has, (numbers[file, row[1]],))
            elif word == "say":
                self.assertEqual(has, ({"num": 0, "yes": 1}[row[1]],))
            elif word == "call":
                [other] = [one for one in defs if one[:2] == row[1:3]]
                self.assertEqual(has, (other[2], row[3], other[7]))
            else:
                self.assertEqual(has, row[1:-1])
            if word in ("load", "store"):
                self.assertLess(has[0], told[7])


class TablesTest(Images):
    def test_a_house(self):
        for lean in (False, True):
            image = self.check(HOUSE, lean)
            self.assertEqual([one[:2] for one in image[2]], [("a", "f"), ("a", "g"), ("b", "g"), ("b", "h")])
            self.assertEqual([one[4:7] for one in image[2]], [
                ((), "num", True), ((), "", False), (("num", "yes"), "num", True), ((), "", False),
            ])
            self.assertEqual(image[2][0][2], 0)
            self.assertEqual(image[3], (
                ("a", "k", "num", 9, False), ("a", "t", "yes", 0, False), ("b", "k", "num", 4, True),
            ))
            self.assertEqual(image[4], (("a", "c", "num", 6, True), ("b", "c", "yes", 1, False)))
            self.assertEqual(image[5], (("a", ("b",)), ("b", ()), ("empty", ())))
            self.assertEqual([row[:4] + row[5:] for row in image[6]], [
                ("a", "f", "z", "num", 7, 17), ("b", "g", "x", "num", 3, 6), ("b", "g", "y", "yes", 3, 6),
            ])

    def test_the_least_image(self):
        self.assertEqual(self.check({"a": ""}), ((), (), (), (), (), (("a", ()),), ()))
        self.assertEqual(image_of({"a": ""}, lean=True), image_of({"a": ""}))

    def test_a_def_without_rows(self):
        image = self.check({"a": "def f()\nend"})
        self.assertEqual(image[:3], ((17, 0), ((0, "a", (2, 1)),), (("a", "f", 0, 2, (), "", False, 0),)))
        image = self.check({"a": "out def f(x num) yes\nend"})
        self.assertEqual(image[:2], ((19,), ((0, "a", (2, 1)),)))
        self.assertEqual(image[2], (("a", "f", 0, 1, ("num",), "yes", True, 1),))

    def test_the_text_s_own_turn(self):
        house = {"b": "def z()\nend\ndef a()\nend\nkeep q = 1\nkeep p = 2", "a": "use c, b\nkeep x = 3", "c": ""}
        image = self.check(house)
        self.assertEqual([one[1] for one in image[2]], ["z", "a"])
        self.assertEqual([one[1] for one in image[3]], ["x", "q", "p"])
        self.assertEqual(image[5][0], ("a", ("c", "b")))

    def test_files_in_any_turn(self):
        for lean in (False, True):
            image = image_of(HOUSE, lean=lean)
            self.assertEqual(image_of({file: HOUSE[file] for file in sorted(HOUSE)}, lean=lean), image)
            self.assertEqual(image_of({file: HOUSE[file] for file in reversed(sorted(HOUSE))}, lean=lean), image)

    def test_calls_ahead_and_behind(self):
        image = self.check({"a": "use b\ndef f()\ndo g()\ndo f()\ndo b.g()\nend\ndef g()\nlet a = 1\nend",
                            "b": "out def g()\nlet a = 1\nlet b = a\nend"})
        called = [has for _, word, has in read_off(image[0]) if word == "call"]
        starts = {one[:2]: one[2] for one in image[2]}
        self.assertEqual([has[0] for has in called], [starts["a", "g"], starts["a", "f"], starts["b", "g"]])

    def test_a_call_with_parts(self):
        image = self.check({"a": "def f(a num, b num, c num, d num, e num, g num)\ndo f(a, b, c, d, e, g)\nend"})
        [has] = [has for _, word, has in read_off(image[0]) if word == "call"]
        self.assertEqual(has[:2], (0, 6))

    def test_keeps_of_other_files(self):
        image = self.check({"a": "keep k = 1\ndef f()\nk = 2\nsay k\nend",
                            "b": "use a\nkeep k = 3\ndef f()\nk = k + 1\nend"})
        lays = [has for _, word, has in read_off(image[0]) if word == "lay"]
        self.assertEqual(lays, [(0,), (1,)])

    def test_truths_and_negative_numbers(self):
        image = self.check({"a": "const a = yes\nkeep b = no\nkeep c = -7\ndef f()\nsay a\nsay -7\nend"})
        self.assertEqual([row[3] for row in image[3] + image[4]], [0, -7, 1])
        says = [has for _, word, has in read_off(image[0]) if word == "say"]
        self.assertEqual(says, [(1,), (0,)])
        pushed = [has for _, word, has in read_off(image_of({"a": "def f()\nsay -7\nend"}, lean=True)[0]) if word == "push"]
        self.assertEqual(pushed, [(-7,)])


class LeanTest(Images):
    def test_fewer_codes(self):
        house = {"a": "const c = 4\nout def f() num\nlet a = c * c\nif c < 3\nsay 1\nend\ngive a + 0 * 7\nend"}
        plain, lean = self.check(house), self.check(house, True)
        self.assertLess(len(lean[0]), len(plain[0]))
        self.assertEqual(lean[3:], plain[3:])
        self.assertEqual(image_of(house, lean=False), plain)

    def test_places_are_some_of_those_without(self):
        for number in range(40):
            house = made_house(number)
            plain, lean = self.check(house), self.check(house, True)
            self.assertTrue({row[1:] for row in lean[1]} <= {row[1:] for row in plain[1]})
            self.assertEqual(lean[3:], plain[3:])
            self.assertEqual(
                [one[:2] + one[4:7] for one in lean[2]], [one[:2] + one[4:7] for one in plain[2]],
            )


class BlanksTest(Images):
    """Empty rows, remarks and more blanks change places, and names' rows, alone."""

    def blown(self, text, most=60):
        rows = []
        left = most - text.count("\n") - 1
        for at, row in enumerate(text.split("\n")):
            if at % 2 == 0 and left > 0:
                rows.append("  # more" if at % 4 else "")
                left -= 1
            for sign in "(),+*":
                row = row.replace(sign, " " + sign + "  ")
            rows.append("   " + row + "  # " + str(at))
        return "\n".join(rows)

    def test_made_houses(self):
        for number in range(30):
            house = run_house(number)
            other = {file: self.blown(text) for file, text in house.items()}
            for lean in (False, True):
                first, second = image_of(house, lean=lean), image_of(other, lean=lean)
                self.assertEqual(first[0], second[0])
                self.assertEqual(first[2:6], second[2:6])
                self.assertEqual([row[:2] for row in first[1]], [row[:2] for row in second[1]])
                self.assertEqual([row[:5] for row in first[6]], [row[:5] for row in second[6]])
                self.assertNotEqual(first[1], second[1])

    def test_places_and_rows_are_the_text_s_own(self):
        image = self.check({"a": "\n\n   def f( x num )\n\n# more\n   let  y = x\n\n  say   y\n end"})
        self.assertEqual(image[6], (("a", "f", "x", "num", 0, 3, 9), ("a", "f", "y", "num", 1, 7, 8)))
        self.assertEqual({row[2] for row in image[1]}, {(6, 9), (6, 13), (8, 3), (9, 2)})


class ManyTest(Images):
    def test_made_houses(self):
        for number in range(60):
            self.check(run_house(number), number % 2 == 1)

    def test_asked_again(self):
        self.assertEqual(told_twice(self, image_of, HOUSE), image_of(HOUSE))

    def test_what_is_refused(self):
        self.assertEqual(fault_of(image_of, {"a": "use a"}), ("names", "a", (1, 5), "ring"))
        self.assertEqual(fault_of(image_of, {"a": "use b\n?", "b": "x"}), ("words", "a", (2, 1), "word"))
        self.assertEqual(fault_of(image_of, {"a": "const n = -yes"}), ("kinds", "a", (1, 12), "kinds"))
        self.assertEqual(fault_of(image_of, {"a": "const n = 1 / 0"}), ("consts", "a", (1, 13), "nought"))
        for no in ({}, {"A": ""}, {"a": "\t"}, {"a": "\n" * 60}):
            self.assertIs(refusal_of(image_of, no), BadHouse)


if __name__ == "__main__":
    unittest.main()

"""[28]: what two houses tell otherwise, by differing and otherwise_by."""

import random
import unittest

from making import made_house
from support import fault_of, refusal_of, told_twice
from wholetongue.differing import differing, otherwise_by
from wholetongue.errors import BadHouse
from wholetongue.tree import tree_of

A = "use b, c\nconst k = 1 + 2\nkeep s = yes\nout def f(x num, y yes) num\n  let z = x\n  give z * 2\nend"
HOUSE = {"a": A, "b": "out const n = 5\nconst m = 2\n", "c": ""}


def changed(file, old, new, house=None):
    house = dict(HOUSE if house is None else house)
    assert old in house[file]
    house[file] = house[file].replace(old, new)
    return house


class Differs(unittest.TestCase):
    def differs(self, other, *told, house=None):
        house = HOUSE if house is None else house
        self.assertEqual(told_twice(self, differing, house, other), list(told))
        back = {"new": "gone", "gone": "new"}
        turned = [(file, name, back.get(why, why)) for file, name, why in told]
        self.assertEqual(differing(other, house), turned)

    def files(self, other, *files, house=None):
        house = HOUSE if house is None else house
        self.assertEqual(told_twice(self, otherwise_by, house, other), list(files))
        self.assertEqual(otherwise_by(other, house), list(files))


class WhyTest(Differs):
    def test_the_same(self):
        self.differs(HOUSE)
        self.files(HOUSE)
        self.differs({file: HOUSE[file] for file in "cba"})
        self.files({file: HOUSE[file] for file in "cba"})

    def test_new_and_gone(self):
        other = changed("b", "const m = 2", "const m = 2\nkeep p = 1")
        self.differs(other, ("b", "p", "new"))
        self.files(other, "b")
        other = changed("a", "keep s = yes\n", "")
        self.assertEqual(differing(HOUSE, other), [("a", "f", "moved"), ("a", "s", "gone")])
        self.files(other, "a")

    def test_another_name_is_one_new_and_one_gone(self):
        self.differs(changed("b", "m = 2", "q = 2"), ("b", "m", "gone"), ("b", "q", "new"))

    def test_kind(self):
        things = ("const n = 1", "keep n = 1", "def n()\nend")
        for thing in things:
            for other in things:
                for out in ("", "out "):
                    if thing != other:
                        self.differs({"a": out + other}, ("a", "n", "kind"), house={"a": thing})
                        self.files({"a": out + other}, "a", house={"a": thing})

    def test_told(self):
        for old, new in (
            ("1 + 2", "1 + 3"), ("1 + 2", "1 - 2"), ("1 + 2", "3"), ("1 + 2", "k"), ("1 + 2", "c.k"),
            ("1 + 2", "yes"), ("1 + 2", "(1 + 2) * 1"), ("1 + 2", "2 + 1"),
        ):
            self.differs(changed("a", old, new), ("a", "k", "told"))
            self.files(changed("a", old, new), "a")

    def test_told_of_a_def(self):
        for old, new in (
            ("x num", "v num"), ("y yes", "y num"), ("yes) num", "yes) yes"), ("yes) num", "yes)"),
            ("let z", "let q"), ("let z = x", "z = x"), ("* 2", "* 3"), ("give z", "say z"), ("x num, y yes", "y yes, x num"),
            ("x num, y yes", "x num"), ("give z * 2", "do f(z * 2)"), ("z * 2", "z * b.n"), ("z * 2", "(z * 2)\nsay 1"),
        ):
            other = changed("a", old, new)
            told = [("a", "f", "told")]
            self.assertEqual(differing(HOUSE, other), told, (old, new))
            self.files(other, "a")

    def test_told_of_what_stands_within(self):
        first = "def f()\nif yes\nsay 1\nelse\nsay 2\nend\nwhile no\ngive\nend\nend"
        for old, new in (
            ("if yes", "if no"), ("say 1", "say 3"), ("say 2", "do f()"), ("else\nsay 2\n", ""), ("say 1\n", ""),
            ("while no", "while yes"), ("give", "say 1"), ("while no\ngive\nend\n", ""), ("while", "if"),
            ("end\nwhile", "while"), ("give\nend", "give\nend\nsay 1"),
        ):
            other = {"a": first.replace(old, new, 1)}
            if old == "end\nwhile":
                other["a"] += "\nend"
            self.differs(other, ("a", "f", "told"), house={"a": first})

    def test_worths_alike_told_otherwise(self):
        self.differs({"a": "const n = 1"}, ("a", "n", "told"), house={"a": "const n = yes"})
        self.differs({"a": "const n = 0"}, ("a", "n", "told"), house={"a": "const n = no"})
        self.differs({"a": "const n = -b"}, ("a", "n", "told"), house={"a": "const n = not b"})
        self.differs({"a": "const n = f.b"}, ("a", "n", "told"), house={"a": "const n = b"})
        self.differs({"a": "const n = f()"}, ("a", "n", "told"), house={"a": "const n = f"})
        self.differs({"a": "def f()\ngive\nend"}, ("a", "f", "told"), house={"a": "def f()\nend"})

    def test_out(self):
        for old, new in (("const m", "out const m"), ("out const n", "const n")):
            other = changed("b", old, new)
            self.differs(other, ("b", "m" if "m" in old else "n", "out"))
            self.files(other, "b")
        self.differs(changed("a", "out def", "def"), ("a", "f", "out"))
        self.differs(changed("a", "keep s", "out keep s"), ("a", "s", "out"))

    def test_moved(self):
        for old, new in (
            ("m = 2", " m = 2"), ("m = 2", "m =  2"), ("const m", "\nconst m"), ("m = 2", "m = (2)"),
            ("const m", "   const m"),
        ):
            other = changed("b", old, new)
            self.differs(other, ("b", "m", "moved"))
            self.files(other)
        self.differs(changed("b", "out const", "\n# more\n  out const"), ("b", "m", "moved"), ("b", "n", "moved"))
        self.differs(changed("a", "\nend", "\n\nend"), ("a", "f", "moved"))
        self.differs(changed("a", "x num,", "x  num ,"), ("a", "f", "moved"))

    def test_what_moves_nothing(self):
        self.differs(changed("b", "const n = 5", "const n = 5   # five"))
        self.differs(changed("b", "2\n", "2\n\n# end\n"))
        self.differs(changed("a", "give z * 2", "give z * 2 "))

    def test_another_turn_moves(self):
        other = {**HOUSE, "b": "const m = 2\nout const n = 5"}
        self.differs(other, ("b", "m", "moved"), ("b", "n", "moved"))
        self.files(other)

    def test_which_goes_ahead(self):
        first = {"a": "const n = 1"}
        self.differs({"a": "\nout keep n = 2"}, ("a", "n", "kind"), house=first)
        self.differs({"a": "\nout const n = 2"}, ("a", "n", "told"), house=first)
        self.differs({"a": "\nout const n = 1"}, ("a", "n", "out"), house=first)
        self.differs({"a": "\nconst n = 1"}, ("a", "n", "moved"), house=first)

    def test_a_name_that_moves_to_another_file(self):
        other = {**HOUSE, "b": "out const n = 5", "c": "const m = 2"}
        self.differs(other, ("b", "m", "gone"), ("c", "m", "new"))
        self.files(other, "b", "c")

    def test_rising(self):
        first = {"b": "const y = 1\nconst x = 1", "a": "const z = 1"}
        other = {"b": "const y = 2\nconst x = 2", "a": "const z = 2\nconst c = 1"}
        self.differs(
            other, ("a", "c", "new"), ("a", "z", "told"), ("b", "x", "told"), ("b", "y", "told"), house=first,
        )


class FilesTest(Differs):
    def test_a_file_in_one_house_alone(self):
        other = {"a": A, "c": ""}
        self.differs(other, ("b", "m", "gone"), ("b", "n", "gone"))
        self.files(other, "b")

    def test_a_file_that_tells_nothing(self):
        self.differs({"a": A, "b": HOUSE["b"]})
        self.files({"a": A, "b": HOUSE["b"]})
        self.files({**HOUSE, "d": "# nothing\n\n"})
        self.files({**HOUSE, "d": "use a"}, "d")
        self.files({"z": "const n = 1"}, "z", house={"a": ""})

    def test_uses(self):
        for new in ("use c, b", "use b", "use c", "use b, c, d", "use b, d"):
            self.differs(changed("a", "use b, c", new))
            self.files(changed("a", "use b, c", new), "a")
        self.files(changed("a", "use b, c\n", ""), "a")

    def test_uses_written_otherwise(self):
        for new in ("use b\nuse c", "use  b ,c", "# b\nuse b, c"):
            self.files(changed("a", "use b, c", new))

    def test_more_than_moved_and_moved(self):
        other = {"a": A.replace("keep", "\nkeep"), "b": "\n" + HOUSE["b"].replace("2", "3"), "c": ""}
        self.files(other, "b")


class LooseTest(Differs):
    """Words and tree are looked at alone."""

    def test_a_name_told_twice(self):
        first = {"a": "const n = 1\nkeep n = 2\nconst n = 3"}
        self.differs({"a": "const n = 1"}, house=first)
        self.differs({"a": "const n = 1\nconst n = 9\ndef n()\nend"}, house=first)
        self.differs({"a": "keep n = 2"}, ("a", "n", "kind"), house=first)
        self.differs({"a": "const n = 3"}, ("a", "n", "told"), house=first)
        self.files({"a": "const n = 1"}, house=first)

    def test_faults_of_later_stages_are_not_looked_at(self):
        first = {"a": "use q\nconst n = n + f() + -yes\nkeep m = 1 / 0\ndef f() num\nx = y\nend"}
        self.differs(first, house=first)
        self.differs({"a": first["a"].replace("1 / 0", "0 / 0")}, ("a", "m", "told"), house=first)

    def test_faults(self):
        words, tree, fine = {"a": "const n = ?"}, {"a": "const n ="}, {"a": "const n = 1"}
        for function in (differing, otherwise_by):
            self.assertEqual(fault_of(function, words, fine), ("words", "a", (1, 11), "word"))
            self.assertEqual(fault_of(function, fine, tree), ("tree", "a", (1, 10), "tree"))
            self.assertEqual(fault_of(function, tree, words), ("tree", "a", (1, 10), "tree"))
            self.assertEqual(fault_of(function, words, tree), ("words", "a", (1, 11), "word"))
            self.assertEqual(fault_of(function, {**fine, "b": "end"}, words), ("tree", "b", (1, 1), "tree"))

    def test_no_houses(self):
        fine, words = {"a": ""}, {"a": "?"}
        for no in ({}, {"A": ""}, {"a": "\t"}, {"a": "\n" * 60}, {file: "" for file in "abcdefghi"}):
            for function in (differing, otherwise_by):
                self.assertIs(refusal_of(function, no, fine), BadHouse)
                self.assertIs(refusal_of(function, fine, no), BadHouse)
                self.assertIs(refusal_of(function, no, words), BadHouse)
                self.assertEqual(fault_of(function, words, no)[:2], ("words", "a"))


def bare(thing):
    """A tree without places, by its own rule: all tuples of two numbers."""
    if isinstance(thing, tuple):
        if len(thing) == 2 and all(type(part) is int for part in thing):
            return "place"
        return [bare(part) for part in thing]
    return thing


class ManyTest(unittest.TestCase):
    def otherwise(self, house, other):
        """What differing tells, worked out one by one."""
        told = []
        things = [
            {(file, one[3]): one for file in texts for one in reversed(tree_of(texts[file])[1])}
            for texts in (house, other)
        ]
        for key in sorted({**things[0], **things[1]}):
            first, second = [found.get(key) for found in things]
            if first is None or second is None:
                told.append(key + ("new" if first is None else "gone",))
            elif first != second:
                same = [
                    first[0] == second[0], bare(first)[3:] == bare(second)[3:], first[2] == second[2], False,
                ]
                told.append(key + (("kind", "told", "out", "moved")[same.index(False)],))
        return told

    def test_houses_and_their_like(self):
        whys = {}
        for number in range(60):
            house = made_house(number)
            chance = random.Random(number)
            other = dict(house)
            file = chance.choice(sorted(house))
            rows = house[file].split("\n")
            at = chance.randrange(len(rows))
            rows[at] = chance.choice((
                rows[at] + " ", "  " + rows[at], rows[at].replace("1", "2"), rows[at].replace("out ", ""),
                "\n" + rows[at], rows[at].replace("const", "keep"), rows[at].replace("yes", "no"),
            ))
            other[file] = "\n".join(rows)
            if chance.random() < 0.2:
                other["z"] = "const c = 1"
            try:
                found = differing(house, other)
            except ValueError:
                continue
            self.assertEqual(found, self.otherwise(house, other))
            self.assertEqual(
                otherwise_by(house, other), sorted({one for one, _, why in found if why != "moved"}),
            )
            for one in found:
                whys[one[2]] = whys.get(one[2], 0) + 1
        self.assertEqual(set(whys), {"new", "kind", "told", "out", "moved"}, whys)


if __name__ == "__main__":
    unittest.main()

"""[2], [14]: what is a house, and the turn in which its faults are found, for all that is handed one."""

import unittest

from support import fault_of, refusal_of
from wholetongue.errors import BadHouse, NoName
from wholetongue.idle import idle_of
from wholetongue.link import image_of
from wholetongue.middle import middle_of
from wholetongue.names import names_of, uses_of
from wholetongue.papers import joined, papers
from wholetongue.renaming import places_of, renamed
from wholetongue.worths import face_of, kinds_of, worths_of


def places_near(house, file):
    """What places_of tells, but for a place at which no name stands."""
    try:
        return places_of(house, file, (1, 7))
    except NoName:
        return []


def renamed_near(house, file):
    """What renamed tells, but for a place at which no name stands."""
    try:
        return renamed(house, file, (1, 7), "fresh")
    except NoName:
        return {}


def of_whole(function):
    """A function that is handed a house alone, handed a file that the house must have, too."""
    def asked(house, file):
        told = function(house)
        if file not in house:
            raise BadHouse("no such file")
        return told
    return asked


NEAR = (names_of, uses_of, places_near, renamed_near)
FAR = (kinds_of, worths_of, face_of, middle_of, idle_of) + tuple(of_whole(function) for function in (
    image_of, lambda house: image_of(house, lean=True), papers, lambda house: papers(house, lean=True),
    lambda house: joined(house, (), []), lambda house: joined(house, (), [], lean=True),
))
ALL = NEAR + FAR

FINE = "const a = 1\nout def f() num\ngive a\nend"
WORDS = "const a = 1 ?"
TREE = "const a 1"
NAMES = "const a = b"
KINDS = "const a = -yes"
CONSTS = "const a = 1 / 0"


class HouseTest(unittest.TestCase):
    def no_house(self, house, file="a"):
        for function in ALL:
            self.assertIs(refusal_of(function, house, file), BadHouse, house)

    def is_house(self, house, file="a"):
        for function in ALL:
            self.assertIsNone(refusal_of(function, house, file), house)

    def test_counts_of_files(self):
        self.no_house({})
        self.is_house({"a": ""})
        self.is_house({file: FINE for file in "abcdefgh"})
        self.no_house({file: FINE for file in "abcdefghi"})

    def test_names_of_files(self):
        for name in ("a", "abcdef", "zzzzzz", "use", "end"):
            self.is_house({name: FINE}, name)
        for name in ("", "abcdefg", "A", "aB", "a1", "1", "a_b", "a ", " a", "a.b", "\u00e9", "a\n"):
            self.no_house({name: FINE}, name)
            self.no_house({"a": FINE, name: FINE})

    def test_signs_of_texts(self):
        self.is_house({"a": FINE + "\n# !\"$&'()*+,-./09:;<=>?@AZ[\\]^_`az{|}~ "})
        for sign in ("\t", "\r", "\0", "\x1f", "\x7f", "\x80", "\u00e9", "\u2028", "\x0b"):
            self.no_house({"a": FINE + "\n# " + sign})
            self.no_house({"a": FINE, "b": sign})

    def test_the_percent_sign_is_mod(self):
        self.no_house({"a": "# 1 % 2"})
        self.is_house({"a": "const a = 1 mod 2"})

    def test_counts_of_rows(self):
        self.is_house({"a": "\n" * 59})
        self.no_house({"a": "\n" * 60})
        self.is_house({"a": "\n".join(["const a = 1"] + ["# more"] * 59)})
        self.no_house({"a": "\n".join(["const a = 1"] + ["# more"] * 60)})

    def test_files_that_it_has_not(self):
        for file in ("b", "", "A", "aa", "abcdefg"):
            self.no_house({"a": FINE}, file)

    def test_no_house_ahead_of_faults(self):
        self.no_house({"a": WORDS, "B": FINE})
        self.no_house({"a": WORDS, "b": "\t"})
        self.no_house({"a": WORDS, "b": "\n" * 60})

    def test_of_several_the_first_as_handed_in(self):
        for function in ALL:
            self.assertEqual(fault_of(function, {"a": WORDS}, "b")[:2], ("words", "a"))


class FirstFaultTest(unittest.TestCase):
    def first(self, house, stage, file, functions=ALL):
        for function in functions:
            for asked in house:
                fault = fault_of(function, house, asked)
                self.assertIsNotNone(fault, house)
                self.assertEqual(fault[:2], (stage, file), house)

    def none(self, house):
        for function in NEAR:
            for asked in house:
                self.assertIsNone(fault_of(function, house, asked), house)

    def test_each_stage(self):
        self.first({"a": WORDS}, "words", "a")
        self.first({"a": TREE}, "tree", "a")
        self.first({"a": NAMES}, "names", "a")
        self.first({"a": KINDS}, "kinds", "a", FAR)
        self.first({"a": CONSTS}, "consts", "a", FAR)
        self.none({"a": KINDS})
        self.none({"a": CONSTS})

    def test_a_fault_is_whole(self):
        house = {"a": "", "abc": FINE + "\n  ?"}
        for function in ALL:
            self.assertEqual(fault_of(function, house, "a"), ("words", "abc", (5, 3), "word"))
        house = {"a": "", "abc": FINE + "\nconst"}
        for function in ALL:
            self.assertEqual(fault_of(function, house, "a"), ("tree", "abc", (5, 6), "tree"))

    def test_words_and_tree_file_by_file(self):
        self.first({"b": WORDS, "a": TREE}, "tree", "a")
        self.first({"a": WORDS, "b": TREE}, "words", "a")
        self.first({"c": TREE, "b": WORDS, "a": FINE}, "words", "b")
        self.first({"a": TREE + "\n?"}, "words", "a")

    def test_names_behind_all_trees(self):
        self.first({"a": NAMES, "b": TREE}, "tree", "b")
        self.first({"a": NAMES, "b": WORDS}, "words", "b")
        self.first({"b": NAMES, "a": FINE, "c": NAMES}, "names", "b")
        self.first({"a": "use b\n" + NAMES, "b": NAMES}, "names", "a")

    def test_kinds_behind_all_names(self):
        self.first({"a": KINDS, "b": NAMES}, "names", "b")
        self.first({"a": CONSTS, "b": NAMES}, "names", "b")

    def test_kinds_and_consts_file_by_file(self):
        self.first({"a": CONSTS, "b": KINDS}, "consts", "a", FAR)
        self.first({"a": KINDS, "b": CONSTS}, "kinds", "a", FAR)
        self.first({"a": CONSTS + "\nconst c = -no"}, "kinds", "a", FAR)

    def test_each_behind_those_it_uses(self):
        self.first({"a": "use b\n" + KINDS, "b": CONSTS}, "consts", "b", FAR)
        self.first({"a": "use c\n" + KINDS, "b": KINDS, "c": FINE}, "kinds", "b", FAR)
        self.first({"a": "use d\n" + KINDS, "b": FINE, "c": CONSTS, "d": KINDS}, "consts", "c", FAR)
        self.first({"a": "use c", "b": "use a\n" + CONSTS, "c": "use d\n" + KINDS, "d": ""}, "kinds", "c", FAR)

    def test_of_several_the_least_name(self):
        # d is wanted by a, the least name, but b may come ahead of it.
        self.first({"a": "use d", "b": KINDS, "d": CONSTS}, "kinds", "b", FAR)
        self.first({"a": "use d\n" + KINDS, "b": "use d\n" + CONSTS, "d": ""}, "kinds", "a", FAR)
        # Once c is looked over, a comes ahead of d.
        self.first({"a": "use c\n" + CONSTS, "c": "", "d": KINDS}, "consts", "a", FAR)

    def test_a_fault_of_another_file(self):
        self.first({"a": FINE, "b": KINDS}, "kinds", "b", FAR)
        self.first({"a": FINE, "b": CONSTS}, "consts", "b", FAR)


if __name__ == "__main__":
    unittest.main()

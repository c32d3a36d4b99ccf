"""[26]: where things are named, by places_of, and other names for them, by renamed."""

import unittest

from making import made_house
from support import fault_of, refusal_of, told_twice
from wholetongue.errors import BadHouse, BadName, NoName, Taken
from wholetongue.names import names_of
from wholetongue.renaming import places_of, renamed

A = """use b, c
const one = b.k + 1   # one and b.k
keep two = one
out def f(x num, y yes) num
  let z = x * one
  if y
    let w = z + two
    z = w + b . f(x, b.k)
    while z < b.s
      z = z + w
      two = f(z, c.f())
    end
  end
  x = -x
  give x
end
def g(x num)
  let z = f(x, yes) + x
  say z + c.k
end"""
B = """out const k = 3
  out keep s = k
out def f(x num, kk num) num
  say s + k
  s = s + 1
  give x
end"""
C = "use b\nout const k = b.k\nout def f() yes\n  say b.s + b.f(b.k, k)\n  give b.k = k\nend"
HOUSE = {"a": A, "b": B, "c": C}


class PlacesTest(unittest.TestCase):
    def places(self, file, *places, house=None):
        """The places of one thing in a file alone, told from each of them."""
        self.everywhere([(file, place) for place in places], house)

    def everywhere(self, places, house=None):
        house = HOUSE if house is None else house
        for file, place in places:
            self.assertEqual(places_of(house, file, place), places)

    def test_things_of_one_file(self):
        self.places("a", (2, 7), (3, 12), (5, 15))
        self.places("a", (3, 6), (7, 17), (11, 7))
        self.places("a", (4, 9), (11, 13), (18, 11))
        self.places("a", (17, 5))

    def test_parts_and_lets_are_each_def_s_own(self):
        self.places("a", (4, 11), (5, 11), (8, 19), (14, 3), (14, 8), (15, 8))
        self.places("a", (17, 7), (18, 13), (18, 23))
        self.places("a", (4, 18), (6, 6))
        self.places("a", (5, 7), (7, 13), (8, 5), (9, 11), (10, 7), (10, 11), (11, 15))
        self.places("a", (18, 7), (19, 7))
        self.places("a", (7, 9), (8, 9), (10, 15))

    def test_things_that_other_files_name(self):
        self.everywhere([
            ("a", (2, 13)), ("a", (8, 22)), ("b", (1, 11)), ("b", (2, 16)), ("b", (4, 11)),
            ("c", (2, 15)), ("c", (4, 17)), ("c", (5, 8)),
        ])
        self.everywhere([("a", (9, 15)), ("b", (2, 12)), ("b", (4, 7)), ("b", (5, 3)), ("b", (5, 7)), ("c", (4, 7))])
        self.everywhere([("a", (8, 13)), ("b", (3, 9)), ("c", (4, 13))])
        self.everywhere([("a", (19, 11)), ("c", (2, 11)), ("c", (4, 22)), ("c", (5, 14))])
        self.everywhere([("a", (11, 18)), ("c", (3, 9))])

    def test_all_names_of_many_houses(self):
        for number in range(5):
            house = made_house(number)
            for file in house:
                for place, _, what in names_of(house, file):
                    told = places_of(house, file, place)
                    self.assertIn((file, place), told)
                    self.assertEqual(sorted(told), told)
                    if what[0] in ("part", "let"):
                        self.assertEqual({one for one, _ in told}, {file})

    def test_places_at_which_no_name_stands(self):
        for place in ((1, 1), (1, 5), (1, 8), (2, 1), (2, 8), (2, 11), (2, 14), (2, 15), (2, 17), (2, 25), (2, 33),
                      (4, 1), (4, 13), (8, 14), (8, 17), (12, 1), (16, 1), (0, 0), (1, 0), (99, 1), (2, 999), (-1, 7)):
            self.assertIs(refusal_of(places_of, HOUSE, "a", place), NoName, place)
            self.assertIs(refusal_of(renamed, HOUSE, "a", place, "fresh"), NoName, place)
        self.assertIs(refusal_of(places_of, {"a": ""}, "a", (1, 1)), NoName)

    def test_asked_again(self):
        self.assertEqual(told_twice(self, places_of, HOUSE, "a", (17, 5)), [("a", (17, 5))])


class RenamedTest(unittest.TestCase):
    def fresh(self, file, place, new, **texts):
        self.assertEqual(renamed(HOUSE, file, place, new), {**HOUSE, **texts})

    def test_things_of_one_file(self):
        text = A.replace("const one", "const eins").replace("= one\n", "= eins\n").replace("* one", "* eins")
        self.fresh("a", (2, 7), "eins", a=text)
        self.fresh("a", (5, 15), "eins", a=text)
        self.fresh("a", (3, 6), "t", a=A.replace("two", "t"))
        self.fresh("a", (17, 5), "lonely", a=A.replace("def g", "def lonely"))

    def test_defs_that_are_named_like_others(self):
        text = A.replace("def f(", "def ff(").replace("= f(", "= ff(")
        self.fresh("a", (11, 13), "ff", a=text)

    def test_parts_and_lets(self):
        self.fresh("a", (18, 7), "sum", a=A.replace("let z = f", "let sum = f").replace("say z", "say sum"))
        text = A.replace("let w", "let wide").replace("= w ", "= wide ").replace("+ w\n", "+ wide\n")
        self.fresh("a", (8, 9), "wide", a=text)
        self.fresh("b", (6, 8), "q", b=B.replace("(x", "(q").replace("give x", "give q"))

    def test_things_that_other_files_name(self):
        a = A.replace("b.k + 1", "b.three + 1").replace("b.k)", "b.three)")
        b = B.replace("k =", "three =").replace("= k", "= three").replace("+ k", "+ three")
        c = C.replace("b.k", "b.three")
        for file, place in (("a", (2, 13)), ("a", (8, 22)), ("b", (2, 16)), ("c", (5, 8))):
            self.fresh(file, place, "three", a=a, b=b, c=c)

    def test_names_behind_a_dot_that_stands_alone(self):
        self.fresh("c", (4, 13), "go", a=A.replace("b . f(", "b . go("), b=B.replace("def f(", "def go("),
                   c=C.replace("b.f(", "b.go("))

    def test_the_same_name_again(self):
        for file in HOUSE:
            for place, name, _ in names_of(HOUSE, file):
                self.assertEqual(renamed(HOUSE, file, place, name.split(".")[-1]), HOUSE)

    def test_several_in_a_row(self):
        house = {"a": "def f(p num) num\n p=p*p-p+f( p+f(p))#p f\n\n  give  p\nend\n\n"}
        self.assertEqual(renamed(house, "a", (2, 8), "long"), {
            "a": "def f(long num) num\n long=long*long-long+f( long+f(long))#p f\n\n  give  long\nend\n\n",
        })
        self.assertEqual(renamed(house, "a", (1, 5), "ff"), {
            "a": "def ff(p num) num\n p=p*p-p+ff( p+ff(p))#p f\n\n  give  p\nend\n\n",
        })

    def test_the_last_word_of_a_text(self):
        house = {"a": "const b = 1\nkeep k = b", "c": "use a"}
        self.assertEqual(renamed(house, "a", (2, 10), "n")["a"], "const n = 1\nkeep k = n")
        house = {"a": "out const b = 1", "c": "use a\nkeep k = a.b"}
        self.assertEqual(renamed(house, "a", (1, 11), "n"), {"a": "out const n = 1", "c": "use a\nkeep k = a.n"})

    def test_files_are_not_named(self):
        house = {"a": "use b\nconst b = b.b", "b": "out const b = 1"}
        self.assertEqual(renamed(house, "a", (2, 7), "n"), {"a": "use b\nconst n = b.b", "b": "out const b = 1"})
        self.assertEqual(renamed(house, "a", (2, 11), "n"), {"a": "use b\nconst b = b.n", "b": "out const n = 1"})

    def test_there_and_back(self):
        for number in range(5):
            house = made_house(number)
            for file in house:
                for place, name, what in names_of(house, file)[::3]:
                    other = renamed(house, file, place, "fresh")
                    self.assertNotEqual(other, house)
                    self.same_but_for_names(house, other)
                    places = places_of(house, file, place)
                    again = [(one, spot) for one in other for spot, new, _ in names_of(other, one)
                             if new.split(".")[-1] == "fresh"]
                    self.assertEqual([one for one, _ in sorted(again)], [one for one, _ in places])
                    self.assertEqual(renamed(other, *sorted(again)[0], name.split(".")[-1]), house)

    def same_but_for_names(self, house, other):
        for file in house:
            self.assertEqual([what[0] for _, _, what in names_of(house, file)],
                             [what[0] for _, _, what in names_of(other, file)])

    def test_asked_again(self):
        told = told_twice(self, renamed, HOUSE, "a", (17, 5), "h")
        self.assertEqual(told["a"], A.replace("def g", "def h"))
        self.assertIsNot(told, HOUSE)


class BadNameTest(unittest.TestCase):
    def test_what_is_no_name(self):
        own = "use const keep out def num yes no let if else while end give say do or and not mod".split()
        for new in own + ["", "sevenle", "A", "aB", "a1", "1", "1a", "a b", " a", "a ", "a.b", "a#", "#", "\n", "a\n",
                          "_", "a_b", "-", "\u00e9", "?", "a("]:
            self.assertIs(refusal_of(renamed, HOUSE, "a", (2, 7), new), BadName, repr(new))

    def test_what_is_one(self):
        for new in ("a", "abcdef", "uses", "xx", "b", "c"):
            self.assertEqual(renamed(HOUSE, "a", (17, 5), new)["a"], A.replace("def g", "def " + new))

    def test_of_several_the_first_as_handed_in(self):
        self.assertIs(refusal_of(renamed, {}, "a", (1, 1), "1"), BadHouse)
        self.assertIs(refusal_of(renamed, HOUSE, "d", (1, 1), "1"), BadHouse)
        self.assertIs(refusal_of(renamed, HOUSE, "a", (1, 1), "1"), NoName)
        self.assertEqual(fault_of(renamed, {"a": "const"}, "a", (1, 1), "1"), ("tree", "a", (1, 6), "tree"))


class TakenTest(unittest.TestCase):
    def taken(self, file, place, *names, house=None):
        for new in names:
            self.assertIs(refusal_of(renamed, HOUSE if house is None else house, file, place, new), Taken, new)

    def test_names_of_a_file(self):
        self.taken("a", (2, 7), "two", "f", "g")
        self.taken("a", (18, 11), "one", "two", "g")
        self.taken("b", (1, 11), "s", "f")
        self.taken("c", (3, 9), "k")

    def test_names_of_a_file_that_a_def_has(self):
        self.taken("a", (2, 7), "x", "y", "z", "w")
        self.taken("a", (17, 5), "x", "y", "z", "w")
        self.taken("b", (2, 12), "x", "kk")

    def test_names_of_a_def(self):
        self.taken("a", (4, 11), "y", "z", "w", "one", "two", "f", "g")
        self.taken("a", (7, 9), "x", "y", "z", "one", "two", "f", "g")
        self.taken("a", (17, 7), "z", "one", "f", "g")

    def test_names_that_are_free(self):
        house = {"a": "use b\nout const k = 1\ndef f(p num)\nlet l = p\nend\ndef g(q num)\nend", "b": "out const o = 1"}
        for place, new in (((4, 5), "q"), ((3, 7), "b"), ((3, 7), "o"), ((6, 7), "p"), ((6, 7), "l"), ((2, 11), "o")):
            self.assertIs(type(renamed(house, "a", place, new)), dict)

    def test_lets_that_do_not_meet(self):
        house = {"a": "def f()\nif yes\nlet m = 1\nelse\nlet n = 1\nend\nend"}
        self.taken("a", (3, 5), "n", house=house)
        self.taken("a", (5, 5), "m", house=house)

    def test_from_a_file_that_uses_this_one(self):
        self.taken("a", (2, 13), "s", "f", "x", "kk")
        self.taken("a", (9, 15), "k", "f", "x")
        self.taken("c", (4, 13), "k", "s", "x")
        # What is not shown stands in the way as well.
        self.taken("a", (2, 10), "m", house={"a": "use b\nkeep n = b.k", "b": "const m = 1\nout const k = 1"})

    def test_nothing_means_another_thing_then(self):
        for number in range(6):
            house = made_house(number)
            names = {file: names_of(house, file) for file in house}
            every = sorted({name.split(".")[-1] for file in house for _, name, _ in names[file]})
            for file in house:
                for place, name, what in names[file][::4]:
                    for new in every[::3]:
                        self.same_meant(house, names, file, place, what, new)

    def same_meant(self, house, names, file, place, what, new):
        try:
            other = renamed(house, file, place, new)
        except Taken:
            return
        here = dict.fromkeys(places_of(house, file, place))
        for one in house:
            for (spot, _, before), (_, _, after) in zip(names[one], names_of(other, one)):
                if what[0] not in ("part", "let") and (one, spot) in here:
                    before = (*before[:2], new)
                self.assertEqual(before, after)

    def test_what_is_taken_changes_nothing(self):
        house = dict(HOUSE)
        self.taken("a", (2, 7), "two", house=house)
        self.assertEqual(house, HOUSE)


if __name__ == "__main__":
    unittest.main()

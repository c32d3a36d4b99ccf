"""[22], [20]: E that are asked for where a Looker stands, ask, stops with an E, and watch."""

import random
import unittest

from asking import Files, made_text, plain_answer
from following import Followed
from making import run_house, to_run
from support import fault_of, refusal_of
from wholetongue.errors import BadDepth, Fault, NoRow
from wholetongue.link import image_of
from wholetongue.look import Looker

A = """use b, c
const c = 7
const big = 999999 * 999999
keep k = 2
keep t = yes
out def f() num
  let x = 3
  x = x + b.g(x)
  let y = x < 9
  while k < 5
    let z = k * 2
    k = k + 1
  end
  give x
end"""
B = """out const c = 1
const in = 5
out keep k = 10
keep hid = 20
out def g(n num) num
  k = k + n
  let m = n * 2
  give m + k
end"""
HOUSE = {"a": A, "b": B, "c": "out const yes1 = 1".replace("yes1", "w"), "d": "out const v = 1"}
DEPTHS_REFUSED = (-1, 2, 3, 10 ** 9, "0", "", True, False, None)


def asked(look, text, depth=0):
    return fault_of(look.ask, text, depth)


class Asks(unittest.TestCase):
    def setUp(self):
        self.look = Looker(image_of(HOUSE), "a", "f")

    def at(self, row, file="a"):
        """A looker that stands at the first row of text that begins there."""
        look = Looker(image_of(HOUSE), "a", "f")
        while look.where() != (file, row):
            look.step()
        return look

    def tells(self, look, text, told, depth=0):
        found = look.ask(text, depth)
        self.assertEqual(found, told)
        self.assertEqual([type(thing) for thing in found], [type(thing) for thing in told])


class AskTest(Asks):
    def test_numbers_and_truths(self):
        for text, told in (
            ("1", ("num", 1)), ("yes", ("yes", True)), ("1 + 2 * 3", ("num", 7)), ("not yes", ("yes", False)),
            ("-7 / 2", ("num", -4)), ("-7 mod 3", ("num", 2)), ("1 < 2 and 2 <= 2", ("yes", True)), ("1 = 1", ("yes", True)),
            ("1 <> 1", ("yes", False)), ("no or no", ("yes", False)), ("(yes) = no", ("yes", False)), ("--1", ("num", 1)),
            ("  2  # two", ("num", 2)), ("\n\n 5", ("num", 5)), ("yes or 1 / 0 = 1", ("yes", True)),
            ("no and 1 / 0 = 1", ("yes", False)), ("0 * 1", ("num", 0)),
        ):
            self.tells(self.look, text, told)

    def test_what_a_file_may_name(self):
        for text, told in (
            ("c", ("num", 7)), ("k", ("num", 2)), ("t", ("yes", True)), ("b.c", ("num", 1)), ("b.k", ("num", 10)),
            ("c.w", ("num", 1)), ("b . k + k * c", ("num", 24)), ("t and b.k = 10", ("yes", True)),
        ):
            self.tells(self.look, text, told)

    def test_names_that_stand(self):
        look = self.at(7)
        self.assertEqual(asked(look, "x"), ("names", "", (1, 1), "unknown"))
        look = self.at(8)
        self.tells(look, "x", ("num", 3))
        self.assertEqual(asked(look, "1 + y"), ("names", "", (1, 5), "unknown"))
        look = self.at(10)
        self.tells(look, "x * 2", ("num", 44))
        self.tells(look, "y", ("yes", False))
        self.assertEqual(asked(look, "z"), ("names", "", (1, 1), "unknown"))
        self.tells(self.at(12), "z + k", ("num", 6))

    def test_in_an_outer_call(self):
        look = self.at(8, "b")
        self.assertEqual(look.frames(), [("b", "g", 8), ("a", "f", 8)])
        self.tells(look, "n + m", ("num", 9))
        self.tells(look, "k + in + hid", ("num", 38))
        self.assertEqual(asked(look, "x"), ("names", "", (1, 1), "unknown"))
        self.tells(look, "x", ("num", 3), 1)
        self.tells(look, "k + b.k", ("num", 15), 1)
        self.assertEqual(asked(look, "n", 1), ("names", "", (1, 1), "unknown"))
        self.assertEqual(asked(look, "y", 1), ("names", "", (1, 1), "unknown"))

    def test_keeps_as_they_are_now(self):
        self.tells(self.at(7), "k", ("num", 2))
        self.tells(self.at(14), "k", ("num", 5))
        self.tells(self.at(9), "b.k", ("num", 13))

    def test_lean(self):
        look = Looker(image_of(HOUSE, lean=True), "a", "f")
        look.stop("a", 12)
        look.go()
        self.tells(look, "x + z + k + b.k + c", ("num", 22 + 4 + 2 + 13 + 7))

    def test_it_changes_nothing(self):
        look = self.at(8)
        for text in ("x + 1", "k", "1 / 0", "q", "f()", "?", "", "1 = yes"):
            known = look.where(), look.frames(), look.seen(0), look.lasting(), look.said(), look.stops(), look.outcome()
            first = refusal_of(look.ask, text, 0) or look.ask(text, 0)
            again = refusal_of(look.ask, text, 0) or look.ask(text, 0)
            self.assertEqual(first, again)
            self.assertEqual(known, (look.where(), look.frames(), look.seen(0), look.lasting(), look.said(),
                                     look.stops(), look.outcome()))
        self.assertEqual(look.step(), ("b", 6))


class FaultTest(Asks):
    def test_words(self):
        for text, place in (("?", (1, 1)), ("1 + abcdefg", (1, 5)), ("01", (1, 1)), ("1\n2 ?", (2, 3)), ("A", (1, 1))):
            self.assertEqual(asked(self.look, text), ("words", "", place, "word"))

    def test_tree(self):
        for text, place in (
            ("", (1, 1)), ("  ", (1, 1)), ("# 1", (1, 1)), ("\n\n", (1, 1)), ("1 +", (1, 4)), ("1 2", (1, 3)),
            ("let x = 1", (1, 1)), ("1\n2", (2, 1)), ("(1", (1, 3)), ("1 = 2 = 3", (1, 7)), ("x = 1 y", (1, 7)),
            ("f.", (1, 3)), ("end", (1, 1)),
        ):
            self.assertEqual(asked(self.look, text), ("tree", "", place, "tree"))

    def test_names(self):
        for text, column in (
            ("q", 1), ("1 + q", 5), ("q + r", 1), ("b.in", 1), ("b.hid", 1), ("b.q", 1), ("d.v", 1), ("a.c", 1), ("in", 1),
            ("f", 1), ("b.g", 1), ("f()", 1), ("b.g(1)", 1), ("1 + b.g(q)", 5), ("c()", 1), ("c + k(1)", 5), ("z", 1),
            ("w", 1), ("c.c", 1), ("k + (q - f())", 6), ("f(q)", 1),
        ):
            self.assertEqual(asked(self.look, text), ("names", "", (1, column), "unknown"), text)
        self.assertEqual(asked(self.look, "\n  1 +  q"), ("names", "", (2, 8), "unknown"))

    def test_kinds(self):
        for text, column in (
            ("-yes", 2), ("1 = yes", 5), ("yes = 1", 7), ("not 1", 5), ("t + 1", 1), ("1 + t", 5), ("k and t", 1), ("t or k", 6),
            ("t < t", 1), ("1 < (2 < 3)", 8), ("(1 + yes) = yes", 6), ("b.k = t", 7), ("1 + -t", 6),
        ):
            self.assertEqual(asked(self.look, text), ("kinds", "", (1, column), "kinds"), text)

    def test_which_goes_ahead(self):
        self.assertEqual(asked(self.look, "1 + ) ?")[0], "words")
        self.assertEqual(asked(self.look, "q + )")[0], "tree")
        self.assertEqual(asked(self.look, "1 + yes + q"), ("names", "", (1, 11), "unknown"))
        self.assertEqual(asked(self.look, "1 / 0 + yes"), ("kinds", "", (1, 9), "kinds"))

    def test_depths(self):
        look = self.at(6, "b")
        for depth in DEPTHS_REFUSED:
            for text in ("1", "q", "-yes", "1 / 0"):
                self.assertIs(refusal_of(look.ask, text, depth), BadDepth)
                self.assertIs(refusal_of(lambda: look.watch(text, at_depth=depth)), BadDepth)
            for text, stage in (("?", "words"), ("1 +", "tree"), ("", "tree")):
                self.assertEqual(asked(look, text, depth)[0], stage)
                self.assertEqual(fault_of(lambda: look.watch(text, at_depth=depth))[0], stage)
        self.assertEqual(look.where(), ("b", 6))

    def test_behind_the_end(self):
        self.look.go()
        for depth in (0, 1, None):
            self.assertIs(refusal_of(self.look.ask, "1", depth), BadDepth)
            self.assertIs(refusal_of(lambda: self.look.watch("1", at_depth=depth)), BadDepth)
        self.assertEqual(asked(self.look, "?")[0], "words")
        self.assertEqual(fault_of(self.look.watch, "1 +")[0], "tree")

    def test_what_comes_to_a_fault(self):
        for text, told in (
            ("1 / 0", ("fault", "nought", 3)), ("1 mod (k - 2)", ("fault", "nought", 3)), ("2 * big", ("fault", "great", 3)),
            ("-big - big", ("fault", "great", 6)), ("1 / 0 + 2 * big", ("fault", "nought", 3)),
            ("2 * big + 1 / 0", ("fault", "great", 3)), ("yes and 1 / 0 = 2", ("fault", "nought", 11)),
            ("\n   1 / (c - 7)", ("fault", "nought", 6)), ("big + 1", ("num", 999998000002)),
        ):
            self.tells(self.look, text, told)


class WhenTest(Asks):
    def test_while_it_is_not_told_no(self):
        self.look.stop("a", 11, when="k = 4")
        self.assertEqual(self.look.go(), ("a", 11))
        self.tells(self.look, "k", ("num", 4))
        self.assertIsNone(self.look.go())

    def test_one_that_never_holds(self):
        self.look.stop("a", 12, when="z = 5")
        self.assertIsNone(self.look.go())
        self.look.stop("a", 12, when="z = 6")
        self.assertEqual(self.look.back_go(), ("a", 12))
        self.tells(self.look, "k", ("num", 3))

    def test_one_that_comes_to_a_fault_is_a_stop(self):
        self.look.stop("a", 11, when="1 / (k - 3) = 5")
        self.assertEqual(self.look.go(), ("a", 11))
        self.tells(self.look, "k", ("num", 3))
        self.assertIsNone(self.look.go())

    def test_by_the_names_of_that_row(self):
        self.look.stop("b", 8, when="m = 6 and hid = 20 and k = 13")
        self.assertEqual(self.look.go(), ("b", 8))
        for row, when, place in (
            (7, "n = m", (1, 5)), (8, "x = 1", (1, 1)), (6, "b.k = 1", (1, 1)), (8, "g(1) = 1", (1, 1)),
        ):
            fault = fault_of(lambda: self.look.stop("b", row, when=when))
            self.assertEqual(fault, ("names", "", place, "unknown"))

    def test_by_the_row_not_by_where_it_stands(self):
        self.look.stop("b", 8, when="m = 1")
        self.look.stop("a", 14, when="x = 22")
        self.assertEqual(self.look.go(), ("a", 14))

    def test_refused(self):
        for when, fault in (
            ("?", ("words", "", (1, 1), "word")), ("1 <", ("tree", "", (1, 4), "tree")), (" ", ("tree", "", (1, 1), "tree")),
            ("#", ("tree", "", (1, 1), "tree")), ("z = 1", ("names", "", (1, 1), "unknown")),
            ("1 + yes", ("kinds", "", (1, 5), "kinds")), ("x", ("kinds", "", (1, 1), "kinds")), ("1 + x", ("kinds", "", (1, 3), "kinds")),
            ("b.k", ("kinds", "", (1, 1), "kinds")), ("1 / 0", ("kinds", "", (1, 3), "kinds")),
            ("-x", ("kinds", "", (1, 1), "kinds")),
        ):
            self.assertEqual(fault_of(lambda: self.look.stop("a", 9, when=when)), fault)
            self.assertIs(refusal_of(lambda: self.look.stop("a", 6, when=when)), NoRow)
        self.assertEqual(self.look.stops(), [])

    def test_in_the_place_of_another(self):
        self.look.stop("a", 11)
        self.look.stop("a", 11, when="no")
        self.assertEqual(self.look.stops(), [("a", 11)])
        self.assertIsNone(self.look.go())
        self.look.stop("a", 11)
        self.assertEqual(self.look.back_go(), ("a", 11))
        refusal_of(lambda: self.look.stop("a", 11, when="1"))
        self.assertEqual(self.look.back_go(), ("a", 11))

    def test_where_it_cannot_be_run(self):
        self.look.go()
        self.look.stop("a", 12, when="z = 6")
        self.assertEqual(self.look.back_go(), ("a", 12))
        self.tells(self.look, "z", ("num", 6))


class WatchTest(Asks):
    def test_changed(self):
        look = self.at(7)
        self.assertEqual(look.watch("k"), ("changed", ("num", 2), ("num", 3)))
        self.assertEqual(look.where(), ("a", 10))
        self.assertEqual(look.watch("k < 5"), ("changed", ("yes", True), ("yes", False)))
        self.assertEqual(look.where(), ("a", 10))
        self.tells(look, "k", ("num", 5))

    def test_changed_in_a_call_around_another(self):
        look = self.at(8)
        self.assertEqual(look.watch("b.k"), ("changed", ("num", 10), ("num", 13)))
        self.assertEqual(look.where(), ("b", 7))
        look = self.at(6, "b")
        self.assertEqual(look.watch("x", at_depth=1), ("changed", ("num", 3), ("num", 22)))
        self.assertEqual(look.where(), ("a", 9))

    def test_by_faults(self):
        look = self.at(7)
        self.assertEqual(look.watch("1 / (k - 2)"), ("changed", ("fault", "nought", 3), ("num", 1)))
        self.assertEqual(look.watch("1 / (k - 4)"), ("changed", ("num", -1), ("fault", "nought", 3)))
        look = self.at(7)
        self.assertEqual(look.watch("1 / (k - 2) + 1 / (b.k - 10) + 1 / (k - 3)"),
                         ("changed", ("fault", "nought", 3), ("fault", "nought", 34)))

    def test_over(self):
        look = self.at(6, "b")
        self.assertEqual(look.watch("n"), ("over",))
        self.assertEqual(look.where(), ("a", 9))

    def test_over_though_another_call_of_the_def_begins(self):
        house = {"a": "def g(n num) num\ngive n\nend\nout def f() num\nlet x = g(1) + g(1)\ngive x\nend"}
        look = Looker(image_of(house), "a", "f")
        look.step()
        self.assertEqual((look.where(), look.watch("n")), (("a", 2), ("over",)))
        self.assertEqual((look.where(), look.frames()), (("a", 2), [("a", "g", 2), ("a", "f", 5)]))

    def test_gone(self):
        look = self.at(12)
        self.assertEqual(look.watch("z"), ("gone",))
        self.assertEqual((look.where(), look.seen(0)[0]), (("a", 10), ("x", "num", 22)))

    def test_end(self):
        look = self.at(9)
        self.assertEqual(look.watch("x"), ("end",))
        self.assertEqual((look.where(), look.outcome()), (None, ("end", 22)))
        look = self.at(14)
        self.assertEqual(look.watch("7"), ("end",))
        house = {"a": "def g(n num)\nsay n\nsay n / 0\nend\nout def f()\ndo g(1)\nend"}
        look = Looker(image_of(house), "a", "f")
        look.step()
        self.assertEqual(look.watch("n"), ("end",))
        self.assertEqual(look.outcome(), ("fault", "nought", "a", 3, 7))

    def test_in_calls_of_itself(self):
        house = {"a": "def g(n num) num\nif 0 < n\nlet x = g(n - 1)\nn = n + x\nend\ngive n\nend\n"
                      "out def f() num\ngive g(3)\nend"}
        look = Looker(image_of(house), "a", "f")
        while len(look.frames()) < 3:
            look.step()
        self.assertEqual(look.frames()[:2], [("a", "g", 2), ("a", "g", 3)])
        self.assertEqual(look.watch("n", at_depth=1), ("changed", ("num", 3), ("num", 6)))
        self.assertEqual(look.frames(), [("a", "g", 6), ("a", "f", 9)])

    def test_steps_can_be_taken_back(self):
        look = self.at(7)
        look.watch("k")
        look.back()
        self.assertEqual(look.where(), ("a", 12))

    def test_stops_are_not_looked_at(self):
        look = self.at(7)
        look.stop("a", 9)
        self.assertEqual(look.watch("k"), ("changed", ("num", 2), ("num", 3)))

    def test_refused(self):
        look = self.at(8)
        for text, stage in (("?", "words"), ("1 +", "tree"), ("", "tree"), ("y", "names"), ("b.g(1)", "names"), ("-t", "kinds")):
            fault = fault_of(look.watch, text)
            self.assertEqual(fault[:2], (stage, ""))
            self.assertEqual(fault, asked(look, text))
        self.assertEqual(look.where(), ("a", 8))
        look.back()
        self.assertEqual(look.where(), ("a", 7))


class ManyTest(Asks):
    def test_asked_at_each_row(self):
        faults = 0
        for number in range(60):
            house = run_house(number)
            files = Files(house)
            image = image_of(house, lean=number % 2 == 1)
            chance = random.Random(number)
            for file, name in to_run(house):
                look = Looker(image, file, name, most=60)
                for moment in Followed(house, file, name, 60).moments:
                    depth = chance.randrange(len(moment.frames))
                    named = files.named_at(moment, depth)
                    for kind in ("num", "yes"):
                        text = made_text(chance, named, kind)
                        told = plain_answer(named, text)
                        self.tells(look, text, told, depth)
                        faults += told[0] == "fault"
                    look.step()
        self.assertGreater(faults, 50)

    def test_watched(self):
        ends = {}
        for number in range(80):
            house = run_house(number)
            image = image_of(house, lean=number % 2 == 1)
            for at, (file, name) in enumerate(to_run(house)):
                watching = Watching(house, file, name, number * 100 + at)
                for _ in range(4 if watching.known.moments else 0):
                    wanted, told = watching.watch(Looker(image, file, name, most=60))
                    self.assertEqual(wanted, told)
                    ends[told[0][0]] = ends.get(told[0][0], 0) + 1
        self.assertEqual(set(ends), {"changed", "over", "gone", "end"})


class Watching:
    """E by chance, watched from a moment by chance on."""

    def __init__(self, house, file, name, number):
        self.known = Followed(house, file, name, 60)
        self.files = Files(house)
        self.chance = random.Random(number)

    def watch(self, look):
        """What is told and where it stands then: by the plain reading, and by a looker."""
        at = self.chance.randrange(len(self.known.moments))
        for _ in range(at):
            look.step()
        depth = self.chance.randrange(len(self.known.moments[at].frames))
        named = self.files.named_at(self.known.moments[at], depth)
        text = made_text(self.chance, named, self.chance.choice(("num", "yes")), 1)
        seen = self.known.moments[at].seen(depth)
        if seen and self.chance.random() < 0.5:
            text = seen[-1][0]
        told, at = self.watched(at, depth, text)
        where = self.known.moments[at].where() if at < len(self.known.moments) else None
        return (told, where), (look.watch(text, at_depth=depth), look.where())

    def watched(self, at, depth, text):
        """What watch tells by the plain reading, and at which moment."""
        call = self.known.numbers[at][depth]
        first = plain_answer(self.files.named_at(self.known.moments[at], depth), text)
        while True:
            at += 1
            if at == len(self.known.moments):
                return ("end",), at
            if call not in self.known.numbers[at]:
                return ("over",), at
            named = self.files.named_at(self.known.moments[at], self.known.numbers[at].index(call))
            try:
                now = plain_answer(named, text)
            except KeyError:
                return ("gone",), at
            if now != first:
                return ("changed", first, now), at


if __name__ == "__main__":
    unittest.main()

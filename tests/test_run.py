"""[19], [11]: images, run whole by run, and row of text by row of text by a Runner."""

import unittest

from following import Followed
from making import run_house, to_run
from support import refusal_of
from wholetongue.errors import BadCount, Ended, NoDef
from wholetongue.link import image_of
from wholetongue.run import ROWS, Runner, run

COUNTS_REFUSED = (-1, 100001, -100000, 10 ** 20, "5", "", True, False, None)


def text(*rows):
    return "\n".join(rows)


class Runs(unittest.TestCase):
    def ends(self, house, outcome, said=(), file="a", name="f", **more):
        """How a def of a house ends, and what it says, without lean and with it."""
        house = {"a": house} if isinstance(house, str) else house
        for lean in (False, True):
            image = image_of(house, lean=lean)
            told = run(image, file, name, **more)
            self.assertEqual(told, (list(said), outcome))
            self.assertEqual([type(one) for one in told[0]], [type(one) for one in said])
            self.assertEqual([type(told), type(told[0]), type(told[1])], [tuple, list, tuple])
            runner = Runner(image, file, name, **more)
            while runner.outcome() is None:
                runner.next()
            self.assertEqual((runner.said(), runner.outcome()), (list(said), outcome))
        self.assertEqual(type(outcome[-1]), type(told[1][-1]))


class EndTest(Runs):
    def test_what_is_given(self):
        self.ends("out def f() num\ngive 7\nend", ("end", 7))
        self.ends("out def f() num\ngive 0\nend", ("end", 0))
        self.ends("out def f() num\ngive 1\nend", ("end", 1))
        self.ends("out def f() yes\ngive yes\nend", ("end", True))
        self.ends("out def f() yes\ngive 1 < 0\nend", ("end", False))
        self.ends("out def f()\ngive\nend", ("end", None))
        self.ends("out def f()\nend", ("end", None))
        self.ends("out def f()\nsay 1\nend", ("end", None), [1])

    def test_what_is_said(self):
        rows = text("keep k = no", "out def f()", "say 1", "say yes", "say 0", "say no", "say k", "say -3",
                    "say k = no", "say 2 * 3", "end")
        self.ends(rows, ("end", None), [1, True, 0, False, False, -3, True, 6])

    def test_said_ahead_of_a_fault(self):
        self.ends("out def f()\nsay 5\nsay 1 / 0\nsay 6\nend", ("fault", "nought", "a", 3, 7), [5])

    def test_keeps_begin_anew(self):
        image = image_of({"a": "keep k = 1\nout def f() num\nk = k + 1\ngive k\nend"})
        for _ in range(3):
            self.assertEqual(run(image, "a", "f"), ([], ("end", 2)))

    def test_calls_through_files(self):
        house = {
            "a": "use b\nkeep k = 1\nout def f() num\ndo b.add(4)\nk = 7\ndo b.add(k)\ngive b.k * 10 + k\nend",
            "b": "out keep k = 0\nout def add(n num)\nk = k + n\nsay k\nend",
        }
        self.ends(house, ("end", 117), [4, 11])

    def test_what_is_wanted_alone_is_looked_at(self):
        rows = text("def g(n num) yes", "say n", "give n = 1", "end", "out def f()",
                    "say g(1) or g(2)", "say g(3) or g(1)", "say g(4) and g(5)", "say g(1) and g(6)", "end")
        self.ends(rows, ("end", None), [1, True, 3, 1, True, 4, False, 1, 6, False])

    def test_from_left_to_right(self):
        rows = text("keep k = 0", "def n() num", "k = k + 1", "say k", "give k", "end", "def g(x num, y num) num",
                    "give x * 10 + y", "end", "out def f() num", "give k + n() * 100 + g(n(), n() + k) * 1000", "end")
        self.ends(rows, ("end", 0 + 100 + 26000), [1, 2, 3])


class FaultTest(Runs):
    def test_nought(self):
        for sign, column in (("/", 12), ("mod", 12)):
            self.ends("keep k = 0\nout def f() num\n   give 12 " + sign + " k\nend",
                      ("fault", "nought", "a", 3, column))

    def test_great(self):
        head = "const m = 999999\nkeep k = 999999 * 999999\nout def f() num\n"
        self.ends(head + "give k * 2\nend", ("fault", "great", "a", 4, 8))
        self.ends(head + "give -k - k\nend", ("fault", "great", "a", 4, 9))
        self.ends(head + "give k + k\nend", ("fault", "great", "a", 4, 8))
        self.ends(head + "give k + 2 * m + 1\nend", ("end", 1000000000000))
        self.ends(head + "give k + 2 * m + 2\nend", ("fault", "great", "a", 4, 16))
        self.ends(head + "give -k - 2 * m - 1\nend", ("end", -1000000000000))
        self.ends(head + "give -k - 2 * m - 2\nend", ("fault", "great", "a", 4, 17))

    def test_deep(self):
        """32 calls under way, and one more."""
        rows = text("keep n = 0", "def g(x num)", "n = n + 1", "if x > 0", "do g(x - 1)", "end", "end",
                    "out def f() num", "do g(30)", "give n", "end").replace("x > 0", "0 < x")
        self.ends(rows, ("end", 31))
        self.ends(rows.replace("30", "31"), ("fault", "deep", "a", 5, 4))
        self.ends("out def f()\ndo f()\nend", ("fault", "deep", "a", 2, 4))

    def test_deep_stands_at_the_call_in_its_file(self):
        house = {
            "a": "use b\nout def f()\ndo b.g(31)\nend",
            "b": "out def g(x num) num\nif x = 0\ngive 0\nend\n give 1 +  g(x - 1)\nend",
        }
        self.ends(house, ("fault", "deep", "b", 5, 12))
        house["a"] = house["a"].replace("31", "30")
        self.ends(house, ("end", None))

    def test_parts_come_ahead_of_deep(self):
        rows = text("def g(x num)", "do g(x + 1 + 0 / (x - 31))", "end", "out def f()", "do g(1)", "end")
        self.ends(rows, ("fault", "nought", "a", 2, 16))
        self.ends(rows.replace("31", "99"), ("fault", "deep", "a", 2, 4))

    def test_nothing(self):
        self.ends("out def f() num\n  end", ("fault", "nothing", "a", 2, 3))
        self.ends("out def f() num\nif 1 < 0\ngive 1\nend\nsay 2\nend", ("fault", "nothing", "a", 6, 1), [2])
        self.ends("def g() yes\nend\nout def f()\ndo g()\nend", ("fault", "nothing", "a", 2, 1))
        self.ends({"a": "use b\nout def f()\nsay b.g()\nend", "b": "\nout def g() num\nend"},
                  ("fault", "nothing", "b", 3, 1))

    def test_tired(self):
        rows = "out def f()\nwhile yes\nend\nend"
        self.ends(rows, ("fault", "tired", "a", 2, 1))
        self.ends("out def f()\nwhile yes\nsay 1\n end\nend", ("fault", "tired", "a", 3, 1), [1], most=3)
        self.ends("out def f()\n let x = 1\nend", ("fault", "tired", "a", 2, 6), most=0)
        self.ends("keep k = 1\nout def f()\n  k = 1\nend", ("fault", "tired", "a", 3, 3), most=0)


class CountTest(Runs):
    ROWS = text("keep k = 2", "def g(n num) num", "while 0 < n", "say n", "n = n - 1", "end", "give 7", "end",
                "out def f() yes", "say g(k)", "if g(1) = 7", "k = 3", "end", "give yes", "end")
    SAID = (2, 1, 7, 1)

    def test_tired_at_each_count(self):
        for lean in (False, True):
            image = image_of({"a": self.ROWS}, lean=lean)
            for most in range(25):
                known = Followed({"a": self.ROWS}, "a", "f", most)
                self.assertEqual(run(image, "a", "f", most=most), (known.said, known.outcome))
                runner = Runner(image, "a", "f", most=most)
                for moment in known.moments:
                    self.assertEqual((runner.where(), runner.said(), runner.outcome()), (moment.where(), moment.said, None))
                    runner.next()
                self.assertEqual((runner.where(), runner.said(), runner.outcome()), (None, known.said, known.outcome))
                self.assertEqual(known.outcome[0] == "end", most >= 17)

    def test_how_many_rows_there_are(self):
        self.assertEqual(ROWS, 2000)
        rows = "out def f() num\nlet n = 0\nwhile n < 998\nn = n + 1\nend\nsay n\ngive n\nend"
        self.ends(rows, ("end", 998), [998])
        more = rows.replace("let", "say 0\nlet")
        self.ends(more, ("fault", "tired", "a", 8, 1), [0, 998])
        self.ends(more, ("end", 998), [0, 998], most=2001)

    def test_the_most_and_the_least(self):
        rows = "out def f() num\nlet n = 0\nwhile n < 49998\nn = n + 1\nend\nsay 1\ngive n\nend"
        image = image_of({"a": rows})
        self.assertEqual(run(image, "a", "f", most=100000), ([1], ("end", 49998)))
        self.assertEqual(run(image, "a", "f", most=99999), ([1], ("fault", "tired", "a", 7, 1)))
        self.assertEqual(run(image, "a", "f", most=0), ([], ("fault", "tired", "a", 2, 5)))

    def test_counts_that_are_refused(self):
        image = image_of({"a": "out def f()\nend"})
        for make in (run, Runner):
            for most in COUNTS_REFUSED:
                self.assertIs(refusal_of(lambda: make(image, "a", "f", most=most)), BadCount, most)
            for most in (0, 1, 100000):
                self.assertIsNone(refusal_of(lambda: make(image, "a", "f", most=most)))


class DefTest(Runs):
    IMAGE = image_of({
        "a": "use b\nout const c = 1\nout keep k = 1\nout def f()\nend\ndef in()\nend\nout def p(x num)\nend",
        "b": "out def g()\nend\ndef f()\nend",
    })

    def test_defs_that_cannot_be_run(self):
        for make in (run, Runner):
            for file, name in (
                ("a", "in"), ("a", "p"), ("a", "c"), ("a", "k"), ("a", "g"), ("a", "q"), ("a", ""), ("b", "f"), ("c", "f"),
                ("", "f"), ("a", "b.g"),
            ):
                self.assertIs(refusal_of(make, self.IMAGE, file, name), NoDef, (file, name))
                for most in COUNTS_REFUSED:
                    self.assertIs(refusal_of(lambda: make(self.IMAGE, file, name, most=most)), NoDef)
            self.assertIsNone(refusal_of(make, self.IMAGE, "a", "f"))
            self.assertIsNone(refusal_of(make, self.IMAGE, "b", "g"))

    def test_an_image_without_defs(self):
        self.assertIs(refusal_of(run, image_of({"a": ""}), "a", "f"), NoDef)


class RunnerTest(Runs):
    def test_row_by_row(self):
        image = image_of({"a": "use b\nout def f() num\nsay 1\n\ngive b.g() + 1\nend",
                          "b": "out def g() num\nsay 2\ngive 3\nend"})
        runner = Runner(image, "a", "f")
        self.assertEqual((runner.where(), runner.said(), runner.outcome()), (("a", 3), [], None))
        self.assertEqual(runner.next(), ("a", 5))
        self.assertEqual((runner.where(), runner.said(), runner.outcome()), (("a", 5), [1], None))
        self.assertEqual(runner.next(), ("b", 2))
        self.assertEqual(runner.next(), ("b", 3))
        self.assertEqual((runner.where(), runner.said(), runner.outcome()), (("b", 3), [1, 2], None))
        self.assertIsNone(runner.next())
        self.assertEqual((runner.where(), runner.said(), runner.outcome()), (None, [1, 2], ("end", 4)))

    def test_behind_the_end(self):
        for rows in ("out def f()\nend", "out def f()\nsay 1\nend", "out def f() num\nend", "out def f()\nsay 1 / 0\nend"):
            runner = Runner(image_of({"a": rows}), "a", "f")
            while runner.where() is not None:
                runner.next()
            told = runner.said(), runner.outcome()
            for _ in range(3):
                self.assertIs(refusal_of(runner.next), Ended)
                self.assertEqual((runner.where(), runner.said(), runner.outcome()), (None,) + told)

    def test_a_def_that_begins_no_row(self):
        runner = Runner(image_of({"a": "out def f()\nend"}), "a", "f", most=0)
        self.assertEqual((runner.where(), runner.outcome()), (None, ("end", None)))
        runner = Runner(image_of({"a": "out def f() yes\nend"}), "a", "f")
        self.assertEqual((runner.where(), runner.outcome()), (None, ("fault", "nothing", "a", 2, 1)))

    def test_tired_at_once(self):
        runner = Runner(image_of({"a": "out def f()\nsay 1\nend"}), "a", "f", most=0)
        self.assertEqual((runner.where(), runner.outcome()), (None, ("fault", "tired", "a", 2, 1)))
        self.assertIs(refusal_of(runner.next), Ended)

    def test_what_is_told_may_be_changed(self):
        image = image_of({"a": "out def f()\nsay 1\nsay 2\nend"})
        runner = Runner(image, "a", "f")
        runner.next()
        runner.said().clear()
        runner.said().append(9)
        runner.next()
        self.assertEqual(runner.said(), [1, 2])
        told = run(image, "a", "f")
        told[0].clear()
        self.assertEqual(run(image, "a", "f"), ([1, 2], ("end", None)))

    def test_runners_are_apart(self):
        image = image_of({"a": "keep k = 0\nout def f()\nk = k + 1\nsay k\nk = k + 5\nsay k\nend"})
        known = repr(image)
        first, second = Runner(image, "a", "f"), Runner(image, "a", "f")
        for _ in range(3):
            first.next()
        self.assertEqual((first.said(), second.said(), second.where()), ([1], [], ("a", 3)))
        for _ in range(2):
            second.next()
        first.next()
        self.assertEqual((first.said(), second.said()), ([1, 6], [1]))
        self.assertEqual(run(image, "a", "f")[0], [1, 6])
        self.assertEqual(repr(image), known)

    def test_refused_between(self):
        image = image_of({"a": "out def f()\nsay 1\nend"})
        known = run(image, "a", "f")
        refusal_of(run, image, "a", "g")
        refusal_of(lambda: run(image, "a", "f", most=-1))
        refusal_of(image_of, {"a": "?"})
        self.assertEqual(run(image, "a", "f"), known)
        self.assertEqual(image_of({"a": "out def f()\nsay 1\nend"}), image)


class HandTest(Runs):
    """Images that no house has made, whose codes leave things on piles while calls are under way."""

    def test_things_below_on_the_pile(self):
        code = (
            1, 2, 30, 2, 12, 16, 14, 1, 2, 8, 18, 0, 17, 0,
            1, 3, 0, 2, 7, 2, 5, 8, 7, 17, 1,
        )
        at = [0, 1, 3, 5, 9, 10, 12, 14, 15, 17, 19, 21, 22, 23]
        places = tuple((one, "a", (2 if one < 14 else 5, 1 + one)) for one in at)
        image = (
            code, places, (("a", "f", 0, 14, (), "", True, 0), ("a", "g", 14, 25, ("num",), "num", False, 2)),
            (), (), (("a", ()),), (),
        )
        self.assertEqual(run(image, "a", "f"), ([16], ("end", None)))
        self.assertEqual(run(image, "a", "f", most=1), ([], ("fault", "tired", "a", 5, 15)))


class ManyTest(Runs):
    def test_made_houses(self):
        ends = {}
        for number in range(120):
            house = run_house(number)
            for lean in (False, True):
                image = image_of(house, lean=lean)
                for file, name in to_run(house):
                    known = Followed(house, file, name, 150)
                    self.assertEqual(run(image, file, name, most=150), (known.said, known.outcome))
                    runner = Runner(image, file, name, most=150)
                    for moment in known.moments:
                        self.assertEqual((runner.where(), runner.said()), (moment.where(), moment.said))
                        runner.next()
                    self.assertEqual((runner.said(), runner.outcome()), (known.said, known.outcome))
                    word = known.outcome[1] if known.outcome[0] == "fault" else "end"
                    ends[word] = ends.get(word, 0) + 1
        self.assertTrue({"end", "nought", "deep", "tired", "nothing"} <= set(ends), ends)


if __name__ == "__main__":
    unittest.main()

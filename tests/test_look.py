"""[20], [21]: a Looker, held against a plain reading of the texts, row of text by row of text."""

import random
import unittest

from asking import Files, made_text, plain_answer
from following import Followed
from making import run_house, to_run
from support import refusal_of
from wholetongue.errors import BadCount, BadDepth, Ended, NoDef, NoRow
from wholetongue.link import image_of
from wholetongue.look import Looker

# Rows: f begins at 3, 4 (its call), 5, 6; g at 10, 11, 12.
HOUSE = {
    "a": "use b\nout def f() num\nlet x = 3\nx = b.g(x) + b.g(1)\nlet y = x < 9\ngive x\nend",
    "b": "\n\n\n\nout keep k = 5\nkeep on = yes\nconst c = 2\nout const d = 4\nout def g(n num) num\n"
         "k = k + n\nsay k\ngive n * c\nend",
}


def looker(house, name="f", file="a", lean=False, **more):
    house = {"a": house} if isinstance(house, str) else house
    return Looker(image_of(house, lean=lean), file, name, **more)


class Looks(unittest.TestCase):
    def stands(self, look, moment, known):
        """All that a looker tells, held against a moment, None for behind the end."""
        if moment is None:
            self.assertIsNone(look.where())
            self.assertEqual((look.frames(), look.lasting(), look.said(), look.outcome()),
                             ([], known.keeps, known.said, known.outcome))
            self.no_depths(look, 0)
            return
        self.assertEqual(look.where(), moment.where())
        self.assertEqual((look.frames(), look.lasting(), look.said(), look.outcome()),
                         (moment.calls(), moment.keeps, moment.said, None))
        for depth in range(len(moment.frames)):
            self.assertEqual(look.seen(depth), moment.seen(depth))
            self.assertEqual([type(worth) for _, _, worth in look.seen(depth)],
                             [type(worth) for _, _, worth in moment.seen(depth)])
        self.no_depths(look, len(moment.frames))

    def no_depths(self, look, many):
        for depth in (-1, many, many + 1, "0", "", True, False, None):
            self.assertIs(refusal_of(look.seen, depth), BadDepth, depth)


class StandTest(Looks):
    def test_row_by_row(self):
        for lean in (False, True):
            look = looker(HOUSE, lean=lean)
            self.assertEqual(look.where(), ("a", 3))
            self.assertEqual(look.frames(), [("a", "f", 3)])
            self.assertEqual(look.seen(0), [])
            self.assertEqual(look.lasting(), [("b", "k", "num", 5), ("b", "on", "yes", True)])
            self.assertEqual(look.step(), ("a", 4))
            self.assertEqual(look.seen(0), [("x", "num", 3)])
            self.assertEqual(look.step(), ("b", 10))
            self.assertEqual(look.frames(), [("b", "g", 10), ("a", "f", 4)])
            self.assertEqual((look.seen(0), look.seen(1)), ([("n", "num", 3)], [("x", "num", 3)]))
            self.assertEqual(look.step(), ("b", 11))
            self.assertEqual(look.lasting(), [("b", "k", "num", 8), ("b", "on", "yes", True)])
            self.assertEqual((look.step(), look.said()), (("b", 12), [8]))
            self.assertEqual(look.step(), ("b", 10))
            self.assertEqual(look.frames(), [("b", "g", 10), ("a", "f", 4)])
            self.assertEqual((look.seen(0), look.seen(1)), ([("n", "num", 1)], [("x", "num", 3)]))
            self.assertEqual([look.step() for _ in range(3)], [("b", 11), ("b", 12), ("a", 5)])
            self.assertEqual(look.seen(0), [("x", "num", 8)])
            self.assertEqual(look.step(), ("a", 6))
            self.assertEqual(look.seen(0), [("x", "num", 8), ("y", "yes", True)])
            self.assertIsNone(look.step())
            self.assertEqual((look.frames(), look.said(), look.outcome()), ([], [8, 9], ("end", 8)))
            self.assertEqual(look.lasting(), [("b", "k", "num", 9), ("b", "on", "yes", True)])
            self.no_depths(look, 0)

    def test_names_in_blocks(self):
        rows = ("out def f()\nlet i = 0\nwhile i < 2\nlet j = i * 10\nif i = 1\nlet w = yes\nsay j\nelse\nlet v = 4\nend\n"
                "i = i + 1\nend\nlet z = i\nsay z\nend")
        known = Followed({"a": rows}, "a", "f")
        look = looker(rows)
        for moment in known.moments:
            self.stands(look, moment, known)
            look.step()
        self.stands(look, None, known)
        self.assertEqual(known.moments[-1].seen(0), [("i", "num", 2), ("z", "num", 2)])

    def test_a_looker_is_made_as_a_runner_is(self):
        image = image_of(HOUSE)
        for file, name in (("a", "g"), ("b", "g"), ("c", "f"), ("b", "k")):
            self.assertIs(refusal_of(Looker, image, file, name), NoDef)
        for most in (-1, 100001, "1", True, None):
            self.assertIs(refusal_of(lambda: Looker(image, "a", "f", most=most)), BadCount)
            self.assertIs(refusal_of(lambda: Looker(image, "a", "g", most=most)), NoDef)
        look = looker(HOUSE, most=4)
        self.assertEqual([look.step() for _ in range(4)], [("a", 4), ("b", 10), ("b", 11), None])
        self.assertEqual(look.outcome(), ("fault", "tired", "b", 12, 1))
        self.assertIsNone(looker(HOUSE, most=0).where())

    def test_a_def_that_begins_no_row(self):
        look = looker("keep k = 2\nout def f()\nend")
        self.assertEqual((look.where(), look.outcome(), look.frames()), (None, ("end", None), []))
        self.assertEqual(look.lasting(), [("a", "k", "num", 2)])
        self.assertIs(look.back(), False)
        self.assertIsNone(look.back_go())
        self.assertIs(refusal_of(look.step), Ended)


class StopTest(Looks):
    def test_stops(self):
        look = looker(HOUSE)
        self.assertEqual(look.stops(), [])
        self.assertIsNone(look.stop("b", 11))
        self.assertIsNone(look.stop("a", 5))
        self.assertIsNone(look.stop("b", 10))
        self.assertEqual(look.stops(), [("a", 5), ("b", 10), ("b", 11)])
        look.stop("b", 11)
        self.assertEqual(look.stops(), [("a", 5), ("b", 10), ("b", 11)])
        self.assertIs(look.unstop("b", 11), True)
        self.assertIs(look.unstop("b", 11), False)
        self.assertIs(look.unstop("a", 6), False)
        self.assertEqual(look.stops(), [("a", 5), ("b", 10)])
        look.stops().clear()
        self.assertEqual(look.stops(), [("a", 5), ("b", 10)])

    def test_rows_at_which_none_begins(self):
        look = looker(HOUSE)
        for file, row in (("a", 0), ("a", 1), ("a", 2), ("a", 7), ("a", 8), ("a", 10), ("b", 3), ("b", 13), ("c", 3), ("a", -1)):
            self.assertIs(refusal_of(look.stop, file, row), NoRow)
            self.assertIs(refusal_of(look.unstop, file, row), NoRow)
            self.assertIs(refusal_of(lambda: look.stop(file, row, when="?")), NoRow)
        self.assertEqual(look.stops(), [])

    def test_rows_of_this_image(self):
        rows = "out def f()\ngive\nsay 1\nend\ndef g()\nsay 2\nend"
        look = looker(rows)
        look.stop("a", 3)
        look.stop("a", 6)
        self.assertIs(look.unstop("a", 3), True)
        lean = looker(rows, lean=True)
        lean.stop("a", 6)
        self.assertIs(refusal_of(lean.stop, "a", 3), NoRow)
        self.assertIs(refusal_of(lean.unstop, "a", 3), NoRow)

    def test_go(self):
        look = looker(HOUSE)
        look.stop("b", 11)
        look.stop("a", 6)
        self.assertEqual([look.go() for _ in range(4)], [("b", 11), ("b", 11), ("a", 6), None])
        self.assertEqual(look.outcome(), ("end", 8))

    def test_go_from_a_stop(self):
        look = looker(HOUSE)
        look.stop("a", 3)
        self.assertEqual(look.where(), ("a", 3))
        self.assertIsNone(look.go())

    def test_go_without_stops(self):
        look = looker(HOUSE)
        self.assertIsNone(look.go())
        self.assertEqual(look.said(), [8, 9])

    def test_stops_put_and_taken_on_the_way(self):
        look = looker(HOUSE)
        look.stop("b", 12)
        self.assertEqual(look.go(), ("b", 12))
        look.unstop("b", 12)
        look.stop("a", 5)
        self.assertEqual(look.go(), ("a", 5))
        look.stop("b", 12)
        self.assertEqual(look.back_go(), ("b", 12))
        self.assertEqual(look.seen(0), [("n", "num", 1)])


class OverTest(Looks):
    def test_over_a_call(self):
        look = looker(HOUSE)
        self.assertEqual([look.over() for _ in range(4)], [("a", 4), ("a", 5), ("a", 6), None])

    def test_over_looks_at_no_stops(self):
        look = looker(HOUSE)
        look.stop("b", 11)
        self.assertEqual([look.over() for _ in range(4)], [("a", 4), ("a", 5), ("a", 6), None])

    def test_over_from_the_last_row_of_a_call(self):
        """The next call in the same row is another one, neither the call nor one around it."""
        look = looker(HOUSE)
        for _ in range(4):
            look.step()
        self.assertEqual(look.where(), ("b", 12))
        self.assertEqual(look.over(), ("a", 5))
        look = looker(HOUSE)
        for _ in range(7):
            look.step()
        self.assertEqual((look.where(), look.over()), (("b", 12), ("a", 5)))

    def test_out(self):
        look = looker(HOUSE)
        look.step()
        look.step()
        look.stop("b", 12)
        self.assertEqual((look.where(), look.out()), (("b", 10), ("a", 5)))
        self.assertIsNone(look.out())
        self.assertEqual(look.outcome(), ("end", 8))

    def test_over_and_out_of_calls_of_itself(self):
        rows = "keep n = 4\nout def f()\nn = n - 1\nif 0 < n\ndo f()\nsay n\nend\nend"
        look = looker(rows)
        for _ in range(3):
            look.step()
        self.assertEqual((look.where(), len(look.frames())), (("a", 3), 2))
        self.assertEqual([look.over(), look.over()], [("a", 4), ("a", 5)])
        self.assertEqual((look.over(), len(look.frames())), (("a", 6), 2))
        self.assertEqual((look.over(), len(look.frames())), (("a", 6), 1))
        look = looker(rows)
        for _ in range(6):
            look.step()
        self.assertEqual((look.where(), len(look.frames())), (("a", 3), 3))
        self.assertEqual((look.out(), len(look.frames())), (("a", 6), 2))
        self.assertEqual((look.out(), len(look.frames())), (("a", 6), 1))
        self.assertIsNone(look.out())

    def test_by_a_fault(self):
        rows = "def g()\nsay 1\nsay 1 / 0\nend\nout def f()\ndo g()\nsay 2\nend"
        for way in ("over", "out", "go"):
            look = looker(rows)
            self.assertIsNone(getattr(look, way)())
            self.assertEqual(look.outcome(), ("fault", "nought", "a", 3, 7))


class EndedTest(Looks):
    def test_refused_behind_the_end(self):
        look = looker(HOUSE)
        look.stop("a", 6)
        look.go()
        look.go()
        for way in (look.step, look.go, look.over, look.out):
            self.assertIs(refusal_of(way), Ended)
            self.assertEqual((look.where(), look.outcome(), look.stops()), (None, ("end", 8), [("a", 6)]))
        self.assertIs(look.back(), True)
        self.assertEqual((look.where(), look.outcome()), (("a", 6), None))

    def test_stops_behind_the_end(self):
        look = looker(HOUSE)
        look.go()
        look.stop("a", 4)
        self.assertEqual(look.stops(), [("a", 4)])
        self.assertIs(refusal_of(look.stop, "a", 7), NoRow)
        self.assertEqual(look.back_go(), ("a", 4))


class BackTest(Looks):
    def test_back(self):
        known = Followed(HOUSE, "a", "f")
        look = looker(HOUSE)
        self.assertIs(look.back(), False)
        while look.step() is not None:
            pass
        for moment in reversed(known.moments):
            self.assertIs(look.back(), True)
            self.stands(look, moment, known)
        for _ in range(2):
            self.assertIs(look.back(), False)
            self.stands(look, known.moments[0], known)
        for moment in known.moments[1:] + [None]:
            look.step()
            self.stands(look, moment, known)

    def test_back_goes_by_one_step_whatever_went_on(self):
        look = looker(HOUSE)
        look.over()
        look.over()
        self.assertEqual((look.where(), look.back(), look.where()), (("a", 5), True, ("b", 12)))
        look.go()
        self.assertEqual((look.where(), look.back(), look.where()), (None, True, ("a", 6)))

    def test_stops_are_not_taken_back(self):
        look = looker(HOUSE)
        look.step()
        look.stop("b", 11)
        look.back()
        self.assertEqual(look.stops(), [("b", 11)])
        look.step()
        look.unstop("b", 11)
        look.back()
        self.assertEqual(look.stops(), [])

    def test_back_go(self):
        look = looker(HOUSE)
        look.stop("b", 11)
        look.go()
        look.go()
        look.go()
        self.assertEqual(look.back_go(), ("b", 11))
        self.assertEqual((look.said(), look.seen(0)), ([8], [("n", "num", 1)]))
        self.assertEqual((look.back_go(), look.said()), (("b", 11), []))
        self.assertEqual(look.back_go(), ("a", 3))
        self.assertEqual(look.back_go(), ("a", 3))

    def test_back_and_on_again(self):
        rows = "keep k = 0\nout def f()\nk = k + 1\nsay k\nk = k + 1\nsay k\nend"
        look = looker(rows)
        for _ in range(3):
            look.go()
            self.assertEqual((look.said(), look.lasting()), ([1, 2], [("a", "k", "num", 2)]))
            while look.back():
                pass
            self.assertEqual((look.said(), look.lasting()), ([], [("a", "k", "num", 0)]))

    def test_back_from_tired(self):
        look = looker("out def f()\nwhile yes\nend\nend", most=5)
        look.go()
        self.assertEqual(look.outcome()[1], "tired")
        for _ in range(2):
            look.back()
        self.assertEqual([look.step(), look.step()], [("a", 2), None])
        self.assertEqual(look.outcome()[1], "tired")


class ApartTest(Looks):
    def test_lookers_are_apart(self):
        image = image_of(HOUSE)
        known = repr(image)
        first, second = Looker(image, "a", "f"), Looker(image, "a", "f")
        first.stop("a", 5)
        first.go()
        self.assertEqual((second.where(), second.stops(), second.said()), (("a", 3), [], []))
        self.assertEqual(second.lasting()[0], ("b", "k", "num", 5))
        self.assertEqual(repr(image), known)

    def test_what_is_told_may_be_changed(self):
        look = looker(HOUSE)
        look.step()
        look.step()
        for told in (look.frames, look.lasting, look.said, look.stops, lambda: look.seen(0), lambda: look.seen(1)):
            known = repr(told())
            told().append(1)
            told().clear()
            self.assertEqual(repr(told()), known)


class ManyTest(Looks):
    """Ways taken by chance, held against where the plain reading stands then."""

    def test_made_houses(self):
        for number in range(70):
            house = run_house(number)
            image = image_of(house, lean=number % 2 == 1)
            for at, (file, name) in enumerate(to_run(house)):
                known = Followed(house, file, name, 120)
                Walk(self, house, known, Looker(image, file, name, most=120), number * 100 + at).walk(40)

    def test_each_row_and_back(self):
        for number in range(70, 110):
            house = run_house(number)
            image = image_of(house, lean=number % 2 == 0)
            for file, name in to_run(house):
                known = Followed(house, file, name, 120)
                look = Looker(image, file, name, most=120)
                for moment in known.moments:
                    self.stands(look, moment, known)
                    look.step()
                self.stands(look, None, known)
                for moment in reversed(known.moments):
                    self.assertIs(look.back(), True)
                    self.stands(look, moment, known)
                self.assertIs(look.back(), False)


class Walk:
    def __init__(self, test, house, known, look, number):
        self.test = test
        self.files = Files(house)
        self.known = known
        self.look = look
        self.chance = random.Random(number)
        self.at = 0
        self.stops = {}

    def moment(self):
        return self.known.moments[self.at] if self.at < len(self.known.moments) else None

    def walk(self, many):
        self.test.stands(self.look, self.moment(), self.known)
        for _ in range(many):
            way = self.chance.choice((
                self.stop, self.unstop, self.on, self.on, self.on, self.over, self.out, self.go, self.back, self.back_go,
            ))
            way()
            self.test.stands(self.look, self.moment(), self.known)
            self.test.assertEqual(self.look.stops(), sorted(self.stops))

    def stop(self):
        """A stop at a row that begins somewhere, mostly with an E that can be asked there."""
        if not self.known.moments:
            return
        moment = self.chance.choice(self.known.moments)
        when = ""
        if self.chance.random() < 0.7:
            when = made_text(self.chance, self.files.named_at(moment, 0), "yes")
        self.look.stop(*moment.where(), when=when)
        self.stops[moment.where()] = when

    def unstop(self):
        if not self.stops:
            return
        spot = self.chance.choice(sorted(self.stops))
        self.test.assertIs(self.look.unstop(*spot), True)
        self.test.assertIs(self.look.unstop(*spot), False)
        del self.stops[spot]

    def is_stop(self):
        moment = self.moment()
        if moment is None or moment.where() not in self.stops:
            return False
        when = self.stops[moment.where()]
        return when == "" or plain_answer(self.files.named_at(moment, 0), when) != ("yes", False)

    def goes(self, way, is_there):
        if self.moment() is None:
            self.test.assertIs(refusal_of(way), Ended)
            return
        self.at += 1
        while self.moment() is not None and not is_there():
            self.at += 1
        moment = self.moment()
        self.test.assertEqual(way(), None if moment is None else moment.where())

    def on(self):
        self.goes(self.look.step, lambda: True)

    def go(self):
        self.goes(self.look.go, self.is_stop)

    def calls(self):
        return self.known.numbers[self.at] if self.moment() else []

    def over(self):
        calls = self.calls()
        self.goes(self.look.over, lambda: self.calls()[0] in calls)

    def out(self):
        calls = self.calls()[1:]
        self.goes(self.look.out, lambda: self.calls()[0] in calls)

    def back(self):
        self.test.assertIs(self.look.back(), self.at > 0)
        self.at = max(0, self.at - 1)

    def back_go(self):
        self.at = max(0, self.at - 1)
        while self.at > 0 and not self.is_stop():
            self.at -= 1
        moment = self.moment()
        self.test.assertEqual(self.look.back_go(), None if moment is None else moment.where())


if __name__ == "__main__":
    unittest.main()

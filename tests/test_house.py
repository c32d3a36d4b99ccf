"""[15]: a House, laid, edited, dropped, and made anew as far as it must be."""

import random
import unittest

from making import made_house
from support import fault_of, refusal_of
from wholetongue.errors import BadHouse, BadRows, Fault, NoFile, NotMade
from wholetongue.house import House
from wholetongue.link import image_of
from wholetongue.names import uses_of
from wholetongue.worths import face_of

COUNTS_REFUSED = ("1", "", True, False, None)


def laid(texts):
    house = House()
    for file, text in texts.items():
        house.lay(file, text)
    return house


def made(texts):
    house = laid(texts)
    house.make()
    return house


class Houses(unittest.TestCase):
    def holds(self, house, texts):
        """The files of a house, and that it would be made as from nothing."""
        self.assertEqual(house.all_files(), sorted(texts))
        for file, text in texts.items():
            self.assertEqual(house.text(file), text)

    def fits(self, house, texts):
        """What was made of these texts."""
        self.assertEqual(house.image(), image_of(texts))
        self.assertEqual(house.faces(), {file: face_of(texts, file) for file in texts})

    def state(self, house):
        try:
            last = house.faces(), house.image()
        except NotMade:
            last = None
        return [(file, house.text(file)) for file in house.all_files()], last

    def refuses(self, house, error, function, *handed):
        """Refused, and nothing changed by it."""
        before = self.state(house)
        self.assertIs(refusal_of(function, *handed), error, handed)
        self.assertEqual(self.state(house), before)


class LayTest(Houses):
    def test_none_at_first(self):
        self.assertEqual(House().all_files(), [])

    def test_lay(self):
        house = House()
        self.assertIsNone(house.lay("b", "const n = 1"))
        house.lay("a", "")
        self.holds(house, {"a": "", "b": "const n = 1"})
        house.lay("b", "anything at all ?")
        self.holds(house, {"a": "", "b": "anything at all ?"})

    def test_what_would_be_no_house(self):
        house = laid({"a": "x"})
        for file in ("", "A", "a1", "abcdefg", "a b", "a.b"):
            self.refuses(house, BadHouse, house.lay, file, "")
        for text in ("\t", "\r", "\u00e9", "1 % 2", "\n" * 60, "\0"):
            self.refuses(house, BadHouse, house.lay, "b", text)
            self.refuses(house, BadHouse, house.lay, "a", text)
        house.lay("b", "\n" * 59)
        house.lay("abcdef", "~ !")

    def test_eight_files(self):
        house = laid({file: "" for file in "abcdefgh"})
        self.refuses(house, BadHouse, house.lay, "i", "")
        house.lay("h", "const n = 1")
        house.drop("a")
        house.lay("i", "")
        self.assertEqual(house.all_files(), list("bcdefghi"))

    def test_drop(self):
        house = laid({"a": "x", "b": "y"})
        self.assertIsNone(house.drop("a"))
        self.holds(house, {"b": "y"})
        self.refuses(house, NoFile, house.drop, "a")
        house.drop("b")
        self.assertEqual(house.all_files(), [])
        self.refuses(house, NoFile, house.drop, "b")

    def test_files_that_are_not_there(self):
        house = laid({"a": "x"})
        for file in ("b", "", "A", "aa"):
            self.refuses(house, NoFile, house.text, file)
            self.refuses(house, NoFile, house.drop, file)
            self.refuses(house, NoFile, house.edit, file, 1, 0, ["x"])

    def test_what_is_told_may_be_changed(self):
        house = laid({"a": "x"})
        house.all_files().append("b")
        self.assertEqual(house.all_files(), ["a"])


class EditTest(Houses):
    TEXT = "one\ntwo\n\nfour"

    def test_at_each_row(self):
        rows = self.TEXT.split("\n")
        for row in range(1, 6):
            for many in range(0, 6 - row):
                for new in ([], ["new"], ["n", ""], ["", "", "x", "y"]):
                    house = laid({"a": self.TEXT})
                    self.assertIsNone(house.edit("a", row, many, new))
                    wanted = rows[:row - 1] + new + rows[row - 1 + many:]
                    self.assertEqual(house.text("a"), "\n".join(wanted))

    def test_rows_that_are_not_there(self):
        house = laid({"a": self.TEXT})
        for row, many in (
            (0, 0), (0, 1), (-1, 0), (6, 0), (1, 5), (4, 2), (5, 1), (1, -1), (5, -1), (2, 4), (10 ** 9, 0), (1, 10 ** 9),
        ):
            self.refuses(house, BadRows, house.edit, "a", row, many, [])
            self.refuses(house, BadRows, house.edit, "a", row, many, ["x\n"])
            self.refuses(house, BadRows, house.edit, "a", row, many, ["\t"])
            self.refuses(house, NoFile, house.edit, "b", row, many, [])
        for thing in COUNTS_REFUSED:
            self.refuses(house, BadRows, house.edit, "a", 1, thing, [])

    def test_an_empty_text_has_one_row(self):
        for row, many, new, text in (
            (1, 0, ["x"], "x\n"), (1, 1, ["x"], "x"), (2, 0, ["x"], "\nx"), (1, 1, [], ""), (1, 1, ["x", "y"], "x\ny"),
        ):
            house = laid({"a": ""})
            house.edit("a", row, many, new)
            self.assertEqual(house.text("a"), text)
        self.refuses(house, BadRows, laid({"a": ""}).edit, "a", 2, 1, [])

    def test_all_rows_taken_away(self):
        house = laid({"a": self.TEXT})
        house.edit("a", 1, 4, [])
        self.assertEqual(house.text("a"), "")

    def test_new_rows_with_line_ends(self):
        house = laid({"a": self.TEXT})
        for new in (["x\n"], ["\n"], ["x", "y\nz"], ["\n", "\t"]):
            self.refuses(house, BadRows, house.edit, "a", 1, 1, new)

    def test_what_would_be_no_house(self):
        house = laid({"a": self.TEXT})
        for new in (["\t"], ["x", "1 % 2"], ["x"] * 58, ["\u00e9"]):
            self.refuses(house, BadHouse, house.edit, "a", 2, 1, new)

    def test_sixty_rows(self):
        for row, many in ((1, 0), (3, 0), (5, 0), (2, 2), (1, 4)):
            house = laid({"a": self.TEXT})
            self.refuses(house, BadHouse, house.edit, "a", row, many, ["x"] * (57 + many))
            house.edit("a", row, many, ["x"] * (56 + many))
            self.assertEqual(house.text("a").count("\n"), 59)

    def test_a_list_that_is_changed_behind(self):
        house = laid({"a": self.TEXT})
        new = ["x"]
        house.edit("a", 1, 4, new)
        new.append("y")
        new[0] = "z"
        self.assertEqual(house.text("a"), "x")
        self.assertEqual(new, ["z", "y"])


class MakeTest(Houses):
    HOUSE = {
        "d": "out const n = 1\nconst in = 2\nout keep k = 3\nout def f(x num) num\ngive x + in\nend",
        "c": "use d\nout const n = d.n + 0\nconst m = d.n",
        "a": "use c\nout def f() num\ngive c.n\nend",
        "b": "use d\nout def f() num\ngive d.f(d.k)\nend",
        "e": "",
    }

    def made_by(self, change, files, texts=None):
        """Which files are made behind a change."""
        house = made(self.HOUSE if texts is None else texts)
        change(house)
        texts = {file: house.text(file) for file in house.all_files()}
        self.assertEqual(house.make(), files)
        self.fits(house, texts)
        self.assertEqual(house.make(), [])
        self.fits(house, texts)
        return house

    def test_the_first_make(self):
        house = laid(self.HOUSE)
        self.assertEqual(house.make(), ["d", "b", "c", "a", "e"])
        self.fits(house, self.HOUSE)
        self.assertEqual(house.make(), [])

    def test_the_turn(self):
        texts = {"a": "use d", "b": "", "c": "use a", "d": ""}
        self.assertEqual(laid(texts).make(), ["b", "d", "a", "c"])
        texts = {"a": "use h", "g": "", "h": "use g", "b": "use a"}
        self.assertEqual(laid(texts).make(), ["g", "h", "a", "b"])

    def test_another_text(self):
        self.made_by(lambda house: house.edit("e", 1, 0, ["# more"]), ["e"])
        self.made_by(lambda house: house.lay("a", self.HOUSE["a"] + " "), ["a"])
        self.made_by(lambda house: house.edit("d", 6, 1, [" end"]), ["d"])

    def test_the_same_text_again(self):
        self.made_by(lambda house: house.lay("d", self.HOUSE["d"]), [])
        self.made_by(lambda house: house.edit("d", 1, 2, self.HOUSE["d"].split("\n")[:2]), [])

    def test_changed_and_changed_back(self):
        def change(house):
            house.edit("d", 1, 1, ["out const n = 7"])
            house.edit("d", 1, 1, ["out const n = 1"])
        self.made_by(change, [])

    def test_a_face_that_stays(self):
        for row, new in (
            (2, "const in = 4"), (3, "out keep k = 4"), (5, "give x * 2"), (1, "out const n = 2 - 1"),
            (1, "  out  const n = 1 # one"), (4, "out def f(y num) num\nlet x = y"),
        ):
            self.made_by(lambda house: house.edit("d", row, 1, new.split("\n")), ["d"])

    def test_a_face_that_changes(self):
        for row, new, files in (
            (1, "out const n = 5", ["d", "b", "c", "a"]), (3, "out keep k = 3\nout const z = 1", ["d", "b", "c"]),
            (2, "out const in = 2", ["d", "b", "c"]), (6, "end\nout def g()\nend", ["d", "b", "c"]),
        ):
            self.made_by(lambda house: house.edit("d", row, 1, new.split("\n")), files)

    def test_a_const_through_several_files(self):
        texts = {
            "a": "out const n = 1", "b": "use a\nout const n = a.n mod 2", "c": "use b\nout const n = b.n * 3",
            "d": "use c\nout def f() num\ngive c.n\nend",
        }
        house = self.made_by(lambda house: house.lay("a", "out const n = 3"), ["a", "b"], texts)
        house.lay("a", "out const n = 4")
        self.assertEqual(house.make(), ["a", "b", "c", "d"])
        self.assertEqual(house.faces()["c"], [("n", "const", "num", 0)])

    def test_truths_and_numbers_are_other_faces(self):
        texts = {"a": "out const n = 1", "b": "use a"}
        self.made_by(lambda house: house.lay("a", "out const n = yes"), ["a", "b"], texts)
        texts = {"a": "out keep n = 1", "b": "use a"}
        self.made_by(lambda house: house.lay("a", "out keep n = no"), ["a", "b"], texts)
        self.made_by(lambda house: house.lay("a", "out const n = 1"), ["a", "b"], texts)

    def test_new_files(self):
        self.made_by(lambda house: house.lay("g", "use e"), ["g"])

    def test_a_file_dropped(self):
        self.made_by(lambda house: house.drop("e"), [])
        house = self.made_by(lambda house: house.drop("a"), [])
        self.assertNotIn("a", house.faces())

    def test_dropped_and_laid_again(self):
        def change(house):
            house.drop("d")
            house.lay("d", self.HOUSE["d"])
        self.made_by(change, [])

        def change_face(house):
            house.drop("d")
            house.lay("d", self.HOUSE["d"].replace("n = 1", "n = 4"))
        self.made_by(change_face, ["d", "b", "c", "a"])

        def change_text(house):
            house.drop("d")
            house.lay("d", self.HOUSE["d"].replace("in = 2", "in = 4"))
        self.made_by(change_text, ["d"])

    def test_dropped_and_laid_again_behind_a_make_that_was_refused(self):
        house = made(self.HOUSE)
        house.drop("d")
        self.assertEqual(fault_of(house.make), ("names", "b", (1, 5), "use"))
        house.lay("d", self.HOUSE["d"])
        self.assertEqual(house.make(), [])
        self.fits(house, self.HOUSE)

    def test_dropped_and_laid_again_behind_a_make(self):
        house = made(self.HOUSE)
        house.drop("a")
        self.assertEqual(house.make(), [])
        house.lay("a", self.HOUSE["a"])
        self.assertEqual(house.make(), ["a"])
        for file in ("a", "b", "c", "d"):
            house.drop(file)
        self.assertEqual(house.make(), [])
        for file in ("a", "b", "c", "d"):
            house.lay(file, self.HOUSE[file])
        self.assertEqual(house.make(), ["d", "b", "c", "a"])
        self.fits(house, self.HOUSE)

    def test_a_change_of_uses(self):
        house = self.made_by(lambda house: house.edit("e", 1, 0, ["use d"]), ["e"])
        house.edit("d", 1, 1, ["out const n = 9"])
        self.assertEqual(house.make(), ["d", "b", "c", "a", "e"])

    def test_two_changes(self):
        def change(house):
            house.edit("c", 3, 1, [])
            house.lay("g", "")
        self.made_by(change, ["c", "g"])

    def test_consts_are_in_the_code_of_those_that_use_them(self):
        house = made(self.HOUSE)
        house.edit("c", 2, 1, ["out const n = 40"])
        self.assertEqual(house.make(), ["c", "a"])
        self.fits(house, {**self.HOUSE, "c": self.HOUSE["c"].replace("d.n + 0", "40")})


class RefusedTest(Houses):
    def test_an_empty_house(self):
        house = House()
        self.refuses(house, BadHouse, house.make)
        house.lay("a", "")
        self.assertEqual(house.make(), ["a"])
        house.drop("a")
        self.refuses(house, BadHouse, house.make)
        self.assertEqual(house.faces(), {"a": []})
        self.assertEqual(house.image(), image_of({"a": ""}))

    def test_nothing_made_yet(self):
        house = House()
        for _ in range(2):
            self.assertIs(refusal_of(house.faces), NotMade)
            self.assertIs(refusal_of(house.image), NotMade)
            house.lay("a", "?")
        self.assertEqual(fault_of(house.make), ("words", "a", (1, 1), "word"))
        self.assertIs(refusal_of(house.faces), NotMade)
        self.assertIs(refusal_of(house.image), NotMade)

    def test_a_fault_of_each_stage(self):
        texts = {"a": "use b\nout def f() num\ngive b.n\nend", "b": "out const n = 1\n"}
        for row, fault in (
            ("?", ("words", "b", (2, 1), "word")), ("const", ("tree", "b", (2, 6), "tree")),
            ("const m = q", ("names", "b", (2, 11), "unknown")), ("const m = -yes", ("kinds", "b", (2, 12), "kinds")),
            ("const m = 1 / 0", ("consts", "b", (2, 13), "nought")),
        ):
            house = made(texts)
            image, faces = house.image(), house.faces()
            house.edit("b", 2, 1, [row])
            house.lay("c", "")
            for _ in range(2):
                self.assertEqual(fault_of(house.make), fault)
                self.assertEqual((house.image(), house.faces()), (image, faces))
                self.assertEqual(house.text("b"), "out const n = 1\n" + row)
            house.edit("b", 2, 1, [""])
            self.assertEqual(house.make(), ["c"])

    def test_a_fault_in_a_file_that_was_not_touched(self):
        texts = {"a": "use b\nout def f() num\ngive b.n\nend", "b": "out const n = 1\n"}
        for other, fault in (
            ("const n = 1", ("names", "a", (3, 6), "unknown")), ("out const n = no", ("kinds", "a", (3, 6), "kinds")),
            ("out def n()\nend", ("names", "a", (3, 6), "call")),
        ):
            house = made(texts)
            house.lay("b", other)
            self.assertEqual(fault_of(house.make), fault)
            house.lay("b", texts["b"])
            self.assertEqual(house.make(), [])

    def test_a_ring(self):
        house = made({"a": "use b", "b": ""})
        house.lay("b", "use a")
        self.assertEqual(fault_of(house.make), ("names", "a", (1, 5), "ring"))

    def test_what_was_made_ahead_of_a_fault_is_made_again(self):
        house = made({"a": "out const n = 1", "b": "use a\nconst m = a.n"})
        house.lay("a", "out const n = 2")
        house.edit("b", 2, 1, ["const m = a.q"])
        self.assertEqual(fault_of(house.make)[:2], ("names", "b"))
        house.edit("b", 2, 1, ["const m = 1 / (a.n - 2)"])
        self.assertEqual(fault_of(house.make), ("consts", "b", (2, 13), "nought"))
        self.assertEqual(house.faces()["a"], [("n", "const", "num", 1)])
        house.edit("b", 2, 1, ["const m = a.n"])
        self.assertEqual(house.make(), ["a", "b"])
        self.assertEqual(house.faces()["a"], [("n", "const", "num", 2)])

    def test_as_they_were_made_last(self):
        texts = {"a": "out const n = 1"}
        house = made(texts)
        house.lay("a", "out const n = 2")
        house.lay("b", "")
        self.fits(house, texts)
        house.drop("a")
        self.fits(house, texts)


class ApartTest(Houses):
    def test_what_is_told_may_be_changed(self):
        house = made(MakeTest.HOUSE)
        faces = house.faces()
        faces["d"].clear()
        faces["d"].append(("n", "const", "num", 77))
        del faces["c"]
        house.make().append("a")
        self.fits(house, MakeTest.HOUSE)
        self.assertEqual(house.make(), [])
        house.edit("d", 6, 1, ["end # d"])
        self.assertEqual(house.make(), ["d"])

    def test_houses_are_apart(self):
        first, second = made({"a": "out const n = 1"}), made({"a": "out const n = 2"})
        first.lay("b", "")
        first.drop("a")
        self.assertEqual((second.all_files(), first.all_files()), (["a"], ["b"]))
        first.make()
        self.fits(first, {"b": ""})
        self.fits(second, {"a": "out const n = 2"})


class Model:
    """When each file was made last: its text, the files of the house then, and their faces."""

    def __init__(self):
        self.last = {}

    def make(self, texts):
        turn = []
        while len(turn) < len(texts):
            ready = [file for file in sorted(texts) if file not in turn and set(uses_of(texts, file)) <= set(turn)]
            turn.append(ready[0])
        faces = {file: face_of(texts, file) for file in texts}
        anew = [file for file in turn if self.must(texts, faces, file)]
        kept = {file: self.last[file] for file in texts if file not in anew}
        self.last = {**kept, **{file: (texts[file], faces) for file in anew}}
        return anew

    def must(self, texts, faces, file):
        if file not in self.last or self.last[file][0] != texts[file]:
            return True
        then = self.last[file][1]
        return any(used not in then or repr(then[used]) != repr(faces[used]) for used in uses_of(texts, file))


class ManyTest(Houses):
    def test_changes_by_chance(self):
        anew, refused = {}, 0
        for number in range(25):
            chance = random.Random(number)
            texts = dict(made_house(number))
            house, model = laid(texts), Model()
            for _ in range(15):
                self.change(chance, house, number)
                texts = {file: house.text(file) for file in house.all_files()}
                before = self.state(house)
                try:
                    found = house.make()
                except (Fault, BadHouse) as refusal:
                    refused += 1
                    self.assertEqual(self.state(house), before)
                    self.assertEqual(refusal_of(image_of, texts), type(refusal))
                    if isinstance(refusal, Fault):
                        wanted = fault_of(image_of, texts)
                        self.assertEqual((refusal.stage, refusal.file, refusal.place, refusal.why), wanted)
                    continue
                self.assertEqual(found, model.make(texts))
                self.fits(house, texts)
                anew[len(found)] = anew.get(len(found), 0) + 1
        self.assertGreater(refused, 20)
        self.assertTrue({0, 1, 2} <= set(anew), anew)

    def change(self, chance, house, number):
        files = house.all_files()
        what = chance.random()
        if what < 0.15 and len(files) > 1:
            house.drop(chance.choice(files))
        elif what < 0.4 or not files:
            for file, text in made_house(number).items():
                house.lay(file, text)
        elif what < 0.9:
            file = chance.choice(files)
            rows = house.text(file).split("\n")
            at = chance.randrange(len(rows))
            row = rows[at]
            new = chance.choice((
                row.replace("1", "2"), row + " ", row.replace("out ", ""), row.replace("3", "5"), row.replace("yes", "no"),
                "out " + row if row.startswith("const") else row,
            ))
            house.edit(file, at + 1, 1, [new])


if __name__ == "__main__":
    unittest.main()

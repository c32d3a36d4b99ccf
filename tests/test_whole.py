"""The whole: many houses through all stages, and the same houses told in other ways."""

import random
import re
import unittest

from following import Followed
from making import run_house, to_run
from support import fault_of
from wholetongue.counts import judged, traced
from wholetongue.differing import differing, otherwise_by
from wholetongue.errors import Fault, Taken
from wholetongue.house import House
from wholetongue.link import image_of
from wholetongue.look import Looker
from wholetongue.names import names_of
from wholetongue.papers import joined, papers
from wholetongue.renaming import renamed
from wholetongue.run import run
from wholetongue.tree import tree_of
from wholetongue.worths import worths_of
from wholetongue.writing import text_of

MOST = 120


class Whole(unittest.TestCase):
    def told(self, house, file, name):
        """The rows that begin, what is said and how it ends, which is the same with lean."""
        found = []
        for lean in (False, True):
            image = image_of(house, lean=lean)
            said, outcome = run(image, file, name, most=MOST)
            found.append((traced(image, file, name, most=MOST), said, outcome))
        self.assertEqual(found[0], found[1])
        return found[0]

    def same(self, house, other, row_of=lambda file, row: row):
        """The same rows of text begin, but for where they stand, the same is said, it ends in the same rows."""
        for file, name in to_run(house):
            trace, said, outcome = self.told(house, file, name)
            rows, others_said, other_outcome = self.told(other, file, name)
            self.assertEqual(said, others_said)
            self.assertEqual([(home, of, row_of(home, row), depth) for home, of, row, depth in trace], rows)
            if outcome[0] == "fault":
                self.assertEqual(other_outcome[:4], outcome[:3] + (row_of(outcome[2], outcome[3]),))
            else:
                self.assertEqual(other_outcome, outcome)

    def same_but_for_rows(self, house, other):
        """The same is said, and it ends in the same way, wherever rows stand now."""
        for file, name in to_run(house):
            trace, said, outcome = self.told(house, file, name)
            rows, others_said, other_outcome = self.told(other, file, name)
            self.assertEqual((said, outcome[:2]), (others_said, other_outcome[:2]))
            self.assertEqual([row[:2] + row[3:] for row in trace], [row[:2] + row[3:] for row in rows])


class StagesTest(Whole):
    def test_from_texts_to_a_looker(self):
        for number in range(200, 240):
            texts = run_house(number)
            house = House()
            for file, text in texts.items():
                house.lay(file, text)
            house.make()
            image = house.image()
            self.assertEqual(image, image_of(texts))
            self.assertIsNone(joined(texts, image, papers(texts)))
            self.assertIsNone(joined(texts, image_of(texts, lean=True), papers(texts, lean=True), lean=True))
            for file, name in to_run(texts):
                known = Followed(texts, file, name, MOST)
                trace, said, outcome = self.told(texts, file, name)
                self.assertEqual((said, outcome), (known.said, known.outcome))
                self.assertEqual(trace, [moment.calls()[0] + (len(moment.frames),) for moment in known.moments])
                self.assertIsNone(judged(image, file, name, trace, most=MOST))
                look = Looker(image, file, name, most=MOST)
                for moment in known.moments:
                    self.assertEqual((look.where(), look.seen(0), look.lasting()), (moment.where(), moment.seen(0), moment.keeps))
                    look.step()

    def test_a_stop_at_each_row_of_a_text(self):
        for number in range(240, 255):
            texts = run_house(number)
            image = image_of(texts)
            for file, name in to_run(texts):
                known = Followed(texts, file, name, MOST)
                for spot in sorted({moment.where() for moment in known.moments}):
                    look = Looker(image, file, name, most=MOST)
                    look.stop(*spot)
                    times = [at for at, moment in enumerate(known.moments) if moment.where() == spot and at > 0]
                    for at in times:
                        self.assertEqual(look.go(), spot)
                        self.assertEqual(look.said(), known.moments[at].said)
                    self.assertIsNone(look.go())

    def test_faults_stand_at_the_text_s_own_place(self):
        """A fault put into a row of a made text, at whatever stage, is told of that row."""
        stages = {"words": "$", "tree": "let", "names": "say qqqqqq", "kinds": "say -yes", "consts": "const qqqqqq = 1 / 0"}
        for number in range(255, 275):
            texts = run_house(number)
            chance = random.Random(number)
            for stage, row in stages.items():
                file = chance.choice(sorted(texts))
                rows = texts[file].split("\n")
                if len(rows) == 60:
                    continue
                at = [at for at, one in enumerate(rows) if "def " in one][0]
                at = at if stage == "consts" else at + 1
                other = {**texts, file: "\n".join(rows[:at] + [row] + rows[at:])}
                for function in (image_of, papers):
                    fault = fault_of(function, other)
                    self.assertEqual((fault[0], fault[1], fault[2][0]), (stage, file, at + 1))


class OtherwiseTest(Whole):
    def houses(self, first, many=25):
        for number in range(first, first + many):
            yield random.Random(number), run_house(number)

    def test_other_names(self):
        for chance, house in self.houses(300):
            other = house
            for _ in range(4):
                file = chance.choice(sorted(other))
                place = chance.choice([place for place, name, _ in names_of(other, file) if name != "main"])
                runnable = [name for home, name in to_run(other)]
                if [name for spot, name, _ in names_of(other, file) if spot == place][0].split(".")[-1] in runnable:
                    continue
                try:
                    other = renamed(other, file, place, "zz" + chance.choice("abcd") + "z")
                except Taken:
                    continue
            for file, name in to_run(house):
                first, second = self.told(house, file, name), self.told(other, file, name)
                self.assertEqual(first[1:], second[1:])
                self.assertEqual([row[2:] for row in first[0]], [row[2:] for row in second[0]])
            self.assertEqual(image_of(house)[:2], image_of(other)[:2])

    def test_files_in_another_turn(self):
        for chance, house in self.houses(325, 10):
            files = list(house)
            chance.shuffle(files)
            self.assertEqual(image_of({file: house[file] for file in files}), image_of(house))

    def test_what_is_told_in_another_turn(self):
        for _, house in self.houses(335):
            other = {}
            for file, text in house.items():
                uses, told = tree_of(text)
                defs = [one for one in told if one[0] == "def"]
                rest = [one for one in told if one[0] != "def"]
                other[file] = text_of((uses, tuple(defs[::-1] + rest)))
            self.same_but_for_rows(house, other)
            self.assertEqual(otherwise_by(house, other), [])

    def test_other_blanks_remarks_and_empty_rows(self):
        for chance, house in self.houses(360):
            other, rows = {}, {}
            for file, text in house.items():
                new = []
                left = 60 - text.count("\n") - 1
                for number, row in enumerate(text.split("\n"), start=1):
                    while left > 0 and chance.random() < 0.3:
                        new.append(chance.choice(("", "   ", "# say 1 / 0", "  # ?")))
                        left -= 1
                    new.append(chance.choice(("", " ", "    ")) + re.sub(r" ", lambda _: " " * chance.randint(1, 3), row)
                               + chance.choice(("", "  ", "# end", " # $")))
                    rows[file, number] = len(new)
                other[file] = "\n".join(new)
            self.same(house, other, lambda file, row: rows[file, row])
            self.assertEqual({why for _, _, why in differing(house, other)} - {"moved"}, set())

    def test_brackets(self):
        for _, house in self.houses(385):
            other = {file: text_of(tree_of(text)) for file, text in house.items()}
            # An else without rows is left out, so rows may stand elsewhere.
            self.same_but_for_rows(house, other)
            self.assertEqual(otherwise_by(house, other), [])
            more = {
                file: re.sub(r"\b(let \w+ =|give|say|if|while) (.+)", r"\1 ((\2))", text) for file, text in other.items()
            }
            self.same(other, more)

    def test_consts_by_their_worths(self):
        for _, house in self.houses(410):
            worths = {
                ("const", file, name): (kind, worth) for file in house for name, kind, worth, _ in worths_of(house, file)[0]
            }
            other = {file: self.with_worths(house, file, worths) for file in house}
            self.assertNotEqual(other, house)
            if fault_of(image_of, other) is None:
                self.same(house, other)

    def with_worths(self, house, file, worths):
        rows = house[file].split("\n")
        for (row, column), name, what in reversed(names_of(house, file)):
            told = rows[row - 1]
            if what in worths and not re.match(r"(out )?const " + name + r"\b", told):
                kind, worth = worths[what]
                text = str(worth) if kind == "num" else ("no", "yes")[worth]
                text = "(" + text + ")" if worth < 0 else text
                rows[row - 1] = told[:column - 1] + text + told[column - 1 + len(name):]
        return "\n".join(rows)

    def test_ifs_turned(self):
        for _, house in self.houses(435):
            other = {}
            for file, text in house.items():
                uses, told = tree_of(text)
                told = [one[:6] + (self.turned(one[6]), one[7]) if one[0] == "def" else one for one in told]
                other[file] = text_of((uses, tuple(told)))
            if max(text.count("\n") for text in other.values()) < 60:
                self.same_but_for_rows(house, other)

    def turned(self, rows):
        found = []
        for row in rows:
            if row[0] == "while":
                row = row[:3] + (self.turned(row[3]),)
            if row[0] == "if":
                what, place, worth, first, second = row
                row = (what, place, ("not", place, worth), self.turned(second), self.turned(first))
            found.append(row)
        return tuple(found)

    def test_things_that_nobody_uses(self):
        more = "\nconst qa = 3\nkeep qb = qa\ndef qc(x num) num\ngive x / 0\nend"
        for _, house in self.houses(460):
            other = {file: text + more if text.count("\n") < 54 else text for file, text in house.items()}
            self.same(house, other)
            other["z"] = "use a\nout const qa = 5"
            if len(other) <= 8 and "a" in house:
                self.same(house, other)
            put = sorted((file, name, "new") for file, text in other.items() if text.endswith(more) for name in ("qa", "qb", "qc"))
            self.assertEqual([one for one in differing(house, other) if one[0] != "z"], put)

    def test_rows_that_do_nothing(self):
        for _, house in self.houses(485):
            other = {}
            for file, text in house.items():
                rows = re.sub(r"(?m)^(let (\w+) = .*)$", r"\1\n\2 = \2", text)
                other[file] = rows if rows.count("\n") < 60 else text
            for file, name in to_run(house):
                if self.told(house, file, name)[2][1] != "tired":
                    found = [run(image_of(texts), file, name, most=400)[0] for texts in (house, other)]
                    self.assertEqual(*found)


class EditedTest(Whole):
    def test_edited_row_by_row(self):
        """A house that is edited towards another one is that one then, whatever came between."""
        for number in range(500, 510):
            first, second = run_house(number), run_house(number + 1000)
            house = House()
            for file, text in first.items():
                house.lay(file, text)
            house.make()
            for file in sorted(set(first) - set(second)):
                house.drop(file)
            for file, text in second.items():
                if file not in first:
                    house.lay(file, "")
                for at, row in enumerate(text.split("\n"), start=1):
                    rows = house.text(file).split("\n")
                    house.edit(file, at, 1 if at <= len(rows) else 0, [row])
                    try:
                        house.make()
                    except Fault as fault:
                        self.assertIn(fault.file, house.all_files())
                left = house.text(file).count("\n") - text.count("\n")
                house.edit(file, text.count("\n") + 2, left, [])
                self.assertEqual(house.text(file), text)
            house.make()
            self.assertEqual(house.image(), image_of(second))


if __name__ == "__main__":
    unittest.main()

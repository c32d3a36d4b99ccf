"""A house whose files are laid, edited and dropped, and made anew as far as they must be."""

from wholetongue.checking import is_between
from wholetongue.errors import BadHouse, BadRows, NoFile, NotMade
from wholetongue.files import is_house, trees_of, turn_of
from wholetongue.laying import Layout, image_laid
from wholetongue.looking import look_over
from wholetongue.made import Made
from wholetongue.naming import names_by_file


class Kept:
    """A file as it was made last: of what text, with what faces of those it uses."""

    def __init__(self, text, faces, made):
        self.of_text = text
        self.with_faces = faces
        self.made = made


class House:
    """Files, and what was made of them last."""

    def __init__(self):
        self.texts = {}
        self.kept = {}
        self.laid = None

    def lay(self, file, text):
        """Take a file's text, new or in the place of another one."""
        texts = dict(self.texts)
        texts[file] = text
        if not is_house(texts):
            raise BadHouse("this would be no house")
        self.texts = texts

    def edit(self, file, row, many, rows):
        """Put new rows in the place of so many of a file's from a row on."""
        old = self.text(file).split("\n")
        if not is_between(row, 1, len(old) + 1) or not is_between(many, 0, len(old) + 1 - row):
            raise BadRows("there are no such rows")
        for new in rows:
            if "\n" in new:
                raise BadRows("a row has no line ends")
        self.lay(file, "\n".join(old[:row - 1] + list(rows) + old[row - 1 + many:]))

    def drop(self, file):
        """Take a file away."""
        self.text(file)
        self.texts = {other: text for other, text in self.texts.items() if other != file}

    def text(self, file):
        """A file's text."""
        if file not in self.texts:
            raise NoFile("there is no such file")
        return self.texts[file]

    def all_files(self):
        """The names of all files, rising."""
        return sorted(self.texts)

    def make(self):
        """Make what must be; the files that were made, each behind those it uses."""
        trees = trees_of(self.texts)
        names = names_by_file(trees)
        kept = {}
        anew = []
        for file in turn_of(trees):
            faces = {used: kept[used].made.face for _, used in trees[file][0]}
            if self.is_still(file, faces):
                kept[file] = self.kept[file]
            else:
                looked = {used: kept[used].made.looked for used in faces}
                made = Made(look_over(file, trees[file], names[file], looked), False)
                kept[file] = Kept(self.texts[file], faces, made)
                anew.append(file)
        self.laid = image_laid(Layout([kept[file].made for file in sorted(kept)]))
        self.kept = kept
        return anew

    def is_still(self, file, faces):
        """Whether what was made of a file last is what would be made of it now."""
        if file not in self.kept:
            return False
        kept = self.kept[file]
        return kept.of_text == self.texts[file] and kept.with_faces == faces

    def faces(self):
        """The faces of all files as they were made last, by their names."""
        self.image()
        return {file: list(kept.made.face) for file, kept in self.kept.items()}

    def image(self):
        """The image as it was made last."""
        if self.laid is None:
            raise NotMade("nothing was made yet")
        return self.laid

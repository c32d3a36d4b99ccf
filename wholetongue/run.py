"""Images, run: whole, or by a row of text each time."""

from wholetongue.engine import Machine
from wholetongue.errors import Ended

ROWS = 2000


def run(image, file, name, *, most=ROWS):
    """(what is said, how it ends) of a def of an image."""
    machine = Machine(image, file, name, most)
    while machine.ended is None:
        machine.do_row()
    return machine.spoken, machine.ended


class Runner:
    """Stands ahead of a row of text that begins, or behind the end."""

    def __init__(self, image, file, name, *, most=ROWS):
        self.machine = Machine(image, file, name, most)

    def next(self):
        """Do the row of text ahead of which it stands; where it stands then."""
        if self.machine.ended is not None:
            raise Ended("the run is behind its end")
        self.machine.do_row()
        return self.where()

    def where(self):
        """(file, row) of the row of text ahead of which it stands, None behind the end."""
        return self.machine.row_ahead()

    def said(self):
        """All that was said so far."""
        return list(self.machine.spoken)

    def outcome(self):
        """How it ended, None where it hasn't."""
        return self.machine.ended

"""A desk: a bench that is led, and asked, by lines."""

from onestillview.errors import BadTask
from onestillview.journals import read_journal
from onestillview.lamps import eras_of
from onestillview.lines import do_at, read_deed, written_standing
from onestillview.told import pending, told_lots


def written_parts(parts):
    """These parts, each a tuple of words and numbers."""
    if parts == ():
        return "none"
    return " ; ".join([" ".join([str(word) for word in part]) for part in parts])


class Desk:
    """A desk with the bench of this journal."""

    def __init__(self, text):
        self.bench = read_journal(text)

    def say(self, line):
        """The answer to this line."""
        if line == "undo":
            self.bench.undo()
        elif line == "redo":
            self.bench.redo()
        elif line == "lamps":
            return " ".join(self.bench.lamps)
        elif line == "standing":
            return written_standing(self.bench.standing)
        elif line == "told":
            return written_parts(told_lots(self.bench.lit))
        elif line == "pending":
            return written_parts(pending(self.bench.lit))
        elif line == "eras":
            return str(eras_of(self.bench.lit))
        else:
            self.do_line(line)
        return "done"

    def do_line(self, line):
        """Does the deed that this line tells."""
        deed = read_deed(line) if isinstance(line, str) else None
        if deed is None:
            raise BadTask(line)
        do_at(self.bench, deed)

"""The desk: clauses in frames, questions under suppositions, and a history of what was changed."""

from ringclause.errors import InvalidRow, NothingToRedo, NothingToUndo, NotKept
from ringclause.forms import begins_with, check_limit, is_form
from ringclause.frames import Frames
from ringclause.literals import is_clause
from ringclause.questions import Question


class Desk:
    """Frames of clauses that are asked again and again, with learnt clauses that are kept for later searches."""

    WIDTH = 3

    def __init__(self, *clauses, width=3):
        first = Question(*clauses)
        check_limit(width, 0)
        # The frames before each step, and for each undone step those before it and those before it was undone.
        self._done = []
        self._undone = []
        self._take(Frames((first,), width, ()))

    @property
    def width(self):
        """The most literals of a clause that is kept."""
        return self._frames.most_literals

    @width.setter
    def width(self, value):
        self.change_width(value)

    def push(self):
        """Open a new frame."""
        self._step(self._frames.pushed())

    def drop(self):
        """Close the last frame with its clauses."""
        self._step(self._frames.dropped())

    def tell(self, *clauses):
        """Add clauses to the last frame."""
        self._step(self._frames.told(clauses))

    def change_width(self, width):
        """Set the width."""
        self._step(self._frames.widened(width))

    def ask(self, *suppositions, order=()):
        """The verdict of the question under suppositions."""
        verdict, frames = self._frames.asked(suppositions, order)
        self._take(frames)
        return verdict

    def paper_of(self, clause):
        """The paper of a kept clause."""
        # Python takes True and 1 for equal, so a value that is no clause must not be compared.
        if is_clause(clause):
            for row in self._frames.kept:
                if row.clause == clause:
                    return row.paper
        raise NotKept(clause)

    def run(self, rows):
        """Do all rows or, if one is refused, none of them; the words of the verdicts."""
        frames = self._frames
        words = []
        for index, row in enumerate(rows):
            if begins_with(row, "ask"):
                _, *suppositions = row
                verdict, frames = frames.asked(suppositions, ())
                words.append(verdict.word())
            else:
                frames = frames_after(row, frames, index)
        self._step(frames)
        return tuple(words)

    def undo(self):
        """Go back to what was before the last step that is not undone."""
        if len(self._done) == 0:
            raise NothingToUndo()
        before = self._done.pop()
        self._undone.append((before, self._frames))
        self._take(before)

    def redo(self):
        """Go back to what was before the last undo that is not taken back."""
        if len(self._undone) == 0:
            raise NothingToRedo()
        before, after = self._undone.pop()
        self._done.append(before)
        self._take(after)

    def _step(self, frames):
        self._done.append(self._frames)
        self._undone = []
        self._take(frames)

    def _take(self, frames):
        self._frames = frames
        self.question = frames.question
        self.depth = len(frames.questions) - 1
        self.kept = tuple([(row.clause, row.depth) for row in frames.kept])


def frames_after(row, frames, index):
    """The frames after a row of a run that asks nothing; `index` is that of the row."""
    if is_form(row, "push", 1):
        return frames.pushed()
    if is_form(row, "drop", 1):
        return frames.dropped()
    if begins_with(row, "tell"):
        return frames.told(row[1:])
    if is_form(row, "width", 2):
        return frames.widened(row[1])
    raise InvalidRow(index)

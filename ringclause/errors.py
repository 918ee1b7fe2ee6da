"""The errors of Ringclause.

No message shows a value: an error may be given any value, and not every value can be written.
"""


class RingclauseError(ValueError):
    """The base class of all errors that the program raises."""


class InvalidName(RingclauseError):
    """A value in the place of a name is not a name."""

    def __init__(self, name):
        super().__init__("not a name")
        self.name = name


class InvalidLiteral(RingclauseError):
    """A value in the place of a literal is not a literal."""

    def __init__(self, value):
        super().__init__("not a literal")
        self.value = value


class InvalidClause(RingclauseError):
    """A value in the place of a clause is neither a list nor a tuple."""

    def __init__(self, value):
        super().__init__("not a clause")
        self.value = value


class InvalidText(RingclauseError):
    """A line of a text has none of the forms that are read."""

    def __init__(self, line):
        super().__init__("not a text of this form")
        self.line = line


class UnknownMoment(RingclauseError):
    """A moment is asked for that is not listed."""

    def __init__(self, name):
        super().__init__("not a listed moment")
        self.name = name


class InvalidChain(RingclauseError):
    """A value in the place of a chain or a ring is none."""

    def __init__(self, bounds):
        super().__init__("not such a chain")
        self.bounds = bounds


class Inconsistent(RingclauseError):
    """No values fulfil a net, since it allows a negative ring."""

    def __init__(self, ring):
        super().__init__("the net has a negative ring")
        self.ring = ring


class InvalidPivot(RingclauseError):
    """Two clauses can not be resolved on a pivot."""

    def __init__(self, pivot):
        super().__init__("not a pivot of these clauses")
        self.pivot = pivot


class WrongStep(RingclauseError):
    """A step of a paper is wrong."""

    def __init__(self, index):
        super().__init__("a step of the paper is wrong")
        self.index = index


class UnknownLiteral(RingclauseError):
    """A literal has no atom of the machine."""

    def __init__(self, literal):
        super().__init__("not a literal of the machine")
        self.literal = literal


class UnknownNumber(RingclauseError):
    """A number is not that of a clause of the machine."""

    def __init__(self, number):
        super().__init__("not the number of a clause")
        self.number = number


class NotAllowed(RingclauseError):
    """A deed is not allowed in this state."""

    def __init__(self, deed):
        super().__init__("the deed is not allowed")
        self.deed = deed


class NoPaper(RingclauseError):
    """There is no paper, since the machine has not ended with no."""

    def __init__(self):
        super().__init__("there is no paper")


class InvalidLimit(RingclauseError):
    """A value in the place of a limit is out of its range."""

    def __init__(self, value):
        super().__init__("not a limit of this kind")
        self.value = value


class InvalidWeights(RingclauseError):
    """The weights are too many, too few or not positive integers."""

    def __init__(self):
        super().__init__("not such weights")


class HasAnswer(RingclauseError):
    """A question has an answer where it must have none."""

    def __init__(self, answer):
        super().__init__("the question has an answer")
        self.answer = answer


class NoAnswer(RingclauseError):
    """A question has no answer where it must have one."""

    def __init__(self, paper):
        super().__init__("the question has no answer")
        self.paper = paper


class NothingPushed(RingclauseError):
    """No frame is open that could be dropped."""

    def __init__(self):
        super().__init__("no frame is open")


class NothingToUndo(RingclauseError):
    """Nothing is there that could be undone."""

    def __init__(self):
        super().__init__("nothing to undo")


class NothingToRedo(RingclauseError):
    """Nothing is there that could be redone."""

    def __init__(self):
        super().__init__("nothing to redo")


class NotKept(RingclauseError):
    """A value is not a kept clause."""

    def __init__(self, clause):
        super().__init__("not a kept clause")
        self.clause = clause


class InvalidRow(RingclauseError):
    """A row of a run has none of the forms."""

    def __init__(self, index):
        super().__init__("not a row of a run")
        self.index = index

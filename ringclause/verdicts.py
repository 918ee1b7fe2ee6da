"""Verdicts: what a search of a question under suppositions ended with."""

from ringclause.editing import cut_paper, lift_paper
from ringclause.papertexts import write_literals, write_paper
from ringclause.texts import write_yes


class Verdict:
    """A question, the suppositions under which it was asked, and the log of the search."""

    def __init__(self, question, suppositions, log):
        self.question = question
        self.suppositions = suppositions
        self.log = log

    def word(self):
        """The end of the search in one word."""
        return "open"

    def lines(self):
        """The lines that tell the verdict."""
        return (f"clauses {len(self.question)}, suppositions {len(self.suppositions)}, deeds {len(self.log)}",)


class Yes(Verdict):
    """A question with an answer; the standing has a literal for each atom of the search."""

    def __init__(self, question, suppositions, log, answer, standing):
        super().__init__(question, suppositions, log)
        self.answer = answer
        self.standing = standing

    def word(self):
        """The end of the search in one word."""
        return "yes"

    def lines(self):
        """The lines of a verdict, and one with the answer."""
        return (*super().lines(), write_yes(self.answer))


class No(Verdict):
    """A question with no answer; the paper shows it, and the core has the suppositions that it needs."""

    def __init__(self, question, suppositions, log, paper, core):
        super().__init__(question, suppositions, log)
        self.paper = paper
        self.core = core

    def word(self):
        """The end of the search in one word."""
        return "no"

    def lifted(self):
        """A paper for the question alone: its outcome says that not all literals of the core hold."""
        return cut_paper(lift_paper(self.paper, self.core))

    def lines(self):
        """The lines of a verdict, one with the core, and those of the paper."""
        core = f"core {write_literals(self.core)}" if self.core else "core"
        steps = write_paper(self.paper).split("\n")
        return (*super().lines(), core, *steps)

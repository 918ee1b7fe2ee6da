"""The bench: it leads a machine deed by deed, back and forth."""

from ringclause.errors import NothingToRedo, NothingToUndo
from ringclause.forms import check_limit
from ringclause.machine import PACE, SPREAD, Machine
from ringclause.strategy import options_of, planned


class Bench:
    """A machine, the log of its deeds, and the deeds that were taken back."""

    def __init__(self, question, *, extra=(), pace=PACE, spread=SPREAD):
        self._machine = Machine(question, extra=extra, pace=pace, spread=spread)
        # The memos before each deed of the log, and for each deed taken back the deed and the memo behind it.
        self._memos = []
        self._undone = []
        self.log = ()
        self._show()

    def do(self, deed):
        """Do a deed that is allowed."""
        memo = self._machine.memo()
        self._machine.do(deed)
        self._memos.append(memo)
        self._undone = []
        self.log = (*self.log, deed)
        self._show()

    def undo(self):
        """Take back the last deed."""
        if len(self.log) == 0:
            raise NothingToUndo()
        self._undone.append((self.log[-1], self._machine.memo()))
        self._machine.restore(self._memos.pop())
        self.log = self.log[:-1]
        self._show()

    def redo(self):
        """Do the deed again that was taken back last."""
        if len(self._undone) == 0:
            raise NothingToRedo()
        deed, memo = self._undone.pop()
        self._memos.append(self._machine.memo())
        self._machine.restore(memo)
        self.log = (*self.log, deed)
        self._show()

    def options(self):
        """Deeds that are allowed now, at least one while the machine is open."""
        return options_of(self._machine)

    def advance(self, count, *order):
        """Do so many planned deeds, fewer if the machine ends before; how many were done."""
        check_limit(count, 0)
        done = 0
        deed = planned(self._machine, *order)
        while deed is not None and done < count:
            self.do(deed)
            done += 1
            deed = planned(self._machine, *order)
        return done

    def run(self, deeds):
        """Do all deeds or, if one is not allowed, none of them."""
        trial = self.snapshot()
        for deed in deeds:
            trial.do(deed)
        for deed in deeds:
            self.do(deed)

    def snapshot(self):
        """A new machine that has done the log."""
        machine = self._machine
        other = Machine(machine.question, extra=machine.atoms, pace=machine.pace, spread=machine.spread)
        other.restore(machine.memo())
        return other

    def _show(self):
        """Show what the machine tells."""
        self.trail = self._machine.trail
        self.level = self._machine.level
        self.state = self._machine.state
        self.rank = self._machine.rank
        self.limit = self._machine.limit
        self.learnt = self._machine.learnt
        self.numbers = self._machine.numbers

"""A desk straight from points 48 to 53, against which the desk is held."""

from ringclause.editing import join_papers
from ringclause.literals import atoms_of
from ringclause.machine import Machine
from ringclause.papers import givens
from ringclause.questions import Question
from ringclause.solving import solve


class SlowDesk:
    def __init__(self, *clauses, width=3):
        self.frames = [[*Question(*clauses).clauses]]
        self.width = width
        self.kept = []
        self.history = []
        self.undone = []

    @property
    def question(self):
        return Question(*[clause for frame in self.frames for clause in frame])

    @property
    def depth(self):
        return len(self.frames) - 1

    def state(self):
        return [list(frame) for frame in self.frames], self.width, list(self.kept)

    def restore(self, state):
        frames, self.width, kept = state
        self.frames, self.kept = [list(frame) for frame in frames], list(kept)

    def step(self):
        self.history.append(self.state())
        self.undone = []

    def push(self):
        self.step()
        self.frames.append([])

    def drop(self):
        self.step()
        self.frames.pop()
        self.kept = [row for row in self.kept if row[1] <= self.depth]

    def tell(self, *clauses):
        self.step()
        self.frames[-1].extend(Question(*clauses).clauses)
        self.kept = [row for row in self.kept if row[0] not in self.question]

    def change_width(self, width):
        self.step()
        self.width = width
        self.kept = [row for row in self.kept if len(row[0]) <= width]

    def undo(self):
        before = self.history.pop()
        self.undone.append((before, self.state()))
        self.restore(before)

    def redo(self):
        before, after = self.undone.pop()
        self.history.append(before)
        self.restore(after)

    def ask(self, *suppositions, order=()):
        """The log of the search and the joined refutation, None after yes."""
        question, before = self.question, list(self.kept)
        searched = question & Question(*[row[0] for row in before])
        log = solve(searched, *suppositions, order=order).log
        machine = Machine(searched & Question.units(*suppositions), extra=order)
        for deed in log:
            machine.do(deed)
        paper = self.joined(machine.refutation(), before) if machine.state == "no" else None
        for number, clause, _ in machine.learnt:
            known = [*question.clauses, *[row[0] for row in before]]
            if (len(clause) <= self.width and clause not in question and clause not in [row[0] for row in self.kept]
                    and set(atoms_of(clause)) <= set(question.atoms)
                    and set(givens(machine.paper_of(number))) <= set(known)):
                joined = self.joined(machine.paper_of(number), before)
                self.kept.append((clause, self.depth_of(clause, joined), joined))
        return log, paper

    def joined(self, paper, kept):
        used = [row[2] for row in kept if row[0] in givens(paper) and row[0] not in self.question]
        return join_papers(*used, paper)

    def depth_of(self, clause, paper):
        for depth in range(len(self.frames)):
            below = Question(*[told for frame in self.frames[:depth + 1] for told in frame])
            if set(givens(paper)) <= set(below.clauses) and set(atoms_of(clause)) <= set(below.atoms):
                return depth
        raise AssertionError("no depth")

"""The state of a desk: frames of clauses, a width, and clauses that are kept from searches."""

from ringclause.editing import join_papers
from ringclause.errors import NothingPushed
from ringclause.forms import check_limit
from ringclause.literals import atoms_of
from ringclause.machine import PACE, SPREAD
from ringclause.questions import Question
from ringclause.solving import given_clauses, no_of, searched, without_duplicates, yes_of


class Kept:
    """A learnt clause that is kept, with its depth and its paper."""

    def __init__(self, clause, depth, paper):
        self.clause = clause
        self.depth = depth
        self.paper = paper


class Frames:
    """Frames of clauses, each a question, with a width and kept clauses of at most so many literals; never changed."""

    def __init__(self, questions, most_literals, kept):
        self.questions = questions
        self.most_literals = most_literals
        self.kept = kept
        rows = [clause for question in questions for clause in question.clauses]
        self.question = Question(*rows)

    def pushed(self):
        """These frames and an empty one."""
        return Frames((*self.questions, Question()), self.most_literals, self.kept)

    def dropped(self):
        """These frames without the last one, and the kept clauses that do not rest on it."""
        depth = len(self.questions) - 2
        if depth < 0:
            raise NothingPushed()
        left = [row for row in self.kept if row.depth <= depth]
        return Frames(self.questions[:-1], self.most_literals, tuple(left))

    def told(self, clauses):
        """These frames with clauses added to the last one."""
        last = self.questions[-1] & Question(*clauses)
        left = [row for row in self.kept if row.clause not in last]
        return Frames((*self.questions[:-1], last), self.most_literals, tuple(left))

    def widened(self, width):
        """These frames with another width, and the kept clauses that have no more literals."""
        check_limit(width, 0)
        left = [row for row in self.kept if len(row.clause) <= width]
        return Frames(self.questions, width, tuple(left))

    def asked(self, suppositions, order):
        """The verdict under suppositions, and these frames with what is kept from the search."""
        asked = without_duplicates(suppositions)
        clauses = [row.clause for row in self.kept]
        whole = self.question & Question(*clauses) & Question.units(*asked)
        machine, log = searched(whole, order, PACE, SPREAD)
        after = Frames(self.questions, self.most_literals, self.kept_after(machine))
        if machine.state == "yes":
            return (yes_of(self.question, asked, machine, log), after)
        return (no_of(self.question, asked, log, self.joined(machine.refutation())), after)

    def kept_after(self, machine):
        """The kept clauses and those that are kept from a search that has ended."""
        kept = list(self.kept)
        for number, clause, _ in machine.learnt:
            if self.may_keep(clause) and clause not in [row.clause for row in kept]:
                paper = machine.paper_of(number)
                if self.is_known(given_clauses(paper)):
                    joined = self.joined(paper)
                    kept.append(Kept(clause, self.depth_of(clause, joined), joined))
        return tuple(kept)

    def may_keep(self, clause):
        """Whether a learnt clause is narrow enough, new to the question and only about its atoms."""
        if len(clause) > self.most_literals or clause in self.question:
            return False
        return all([atom in self.question.atoms for atom in atoms_of(clause)])

    def is_known(self, clauses):
        """Whether all the clauses are clauses of the question or kept."""
        kept = [row.clause for row in self.kept]
        return all([clause in self.question or clause in kept for clause in clauses])

    def joined(self, paper):
        """A paper of a machine behind the papers of the kept clauses that it takes as given."""
        given = given_clauses(paper)
        papers = [row.paper for row in self.kept if row.clause in given and row.clause not in self.question]
        return join_papers(*papers, paper)

    def depth_of(self, clause, paper):
        """The least depth at which all given clauses of the paper and all atoms of the clause are there."""
        depths = [depth_of_clause(given, self.questions) for given in given_clauses(paper)]
        depths += [depth_of_atom(atom, self.questions) for atom in atoms_of(clause)]
        # A paper of rings alone has no given clauses, and its depth is still not below 0.
        return max([0, *depths])


def depth_of_clause(clause, questions):
    """The place of the first question that has the clause."""
    return min([place for place, question in enumerate(questions) if clause in question])


def depth_of_atom(atom, questions):
    """The place of the first question that has the atom."""
    return min([place for place, question in enumerate(questions) if atom in question.atoms])

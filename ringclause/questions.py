"""Questions: sets of clauses."""

from ringclause.literals import atoms_of, check_listed, clause_of, clauses_stand, is_clause, moments_of, truths_of
from ringclause.texts import all_read, told_clause, write_clause


class Question:
    """A set of clauses, kept in normal form and in ascending order."""

    def __init__(self, *clauses):
        rows = [clause_of(clause) for clause in clauses]
        self.clauses = tuple(sorted(set(rows)))
        literals = [literal for clause in self.clauses for literal in clause]
        self.atoms = atoms_of(literals)
        self.truths = truths_of(literals)
        self.moments = moments_of(literals)

    @classmethod
    def units(cls, *literals):
        """The question with one clause of one literal for each literal."""
        rows = [(literal,) for literal in literals]
        return cls(*rows)

    @classmethod
    def read(cls, text):
        """The question with this text."""
        if text == "":
            return cls()
        rows = all_read([told_clause(line) for line in text.split("\n")])
        return cls(*rows)

    def __and__(self, other):
        return Question(*self.clauses, *other.clauses)

    def __sub__(self, other):
        rows = [clause for clause in self.clauses if clause not in other.clauses]
        return Question(*rows)

    def __eq__(self, other):
        return isinstance(other, Question) and self.clauses == other.clauses

    def __len__(self):
        return len(self.clauses)

    def __contains__(self, clause):
        # Python takes True and 1 for equal, so a value that is no clause must not be compared at all.
        return is_clause(clause) and clause in self.clauses

    def __call__(self, values):
        check_listed(self.moments, values)
        return clauses_stand(self.clauses, values)

    def __str__(self):
        return "\n".join([write_clause(clause) for clause in self.clauses])

    def __repr__(self):
        return "".join(["Question(", ", ".join([repr(clause) for clause in self.clauses]), ")"])

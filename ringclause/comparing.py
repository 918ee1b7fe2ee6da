"""Whether two questions say the same."""

from ringclause.literals import atom_of, atoms_of, opposite
from ringclause.solving import solve


class Same:
    """Papers from each of two questions for the clauses of the other one."""

    def __init__(self, forward, backward):
        self.forward = forward
        self.backward = backward

    def word(self):
        """What was found in one word."""
        return "same"


class Apart:
    """The first standing, and values with it, that fulfil one of two questions only."""

    def __init__(self, standing, answer, side):
        self.standing = standing
        self.answer = answer
        self.side = side

    def word(self):
        """What was found in one word."""
        return "apart"


def compare(first, second):
    """Papers which show that two questions say the same, or values which show that they do not."""
    atoms = atoms_of([*first.atoms, *second.atoms])
    forward = refusals(first, second, atoms)
    backward = refusals(second, first, atoms)
    apart = [(1, verdict) for verdict in forward if verdict.word() == "yes"]
    apart += [(2, verdict) for verdict in backward if verdict.word() == "yes"]
    if apart:
        side, verdict = min(apart, key=lambda row: place_of(row[1].standing))
        return Apart(verdict.standing, verdict.answer, side)
    return Same(told_by(forward, second), told_by(backward, first))


def refusals(question, other, atoms):
    """For each clause of another question the verdict of this one where the clause does not hold."""
    verdicts = []
    for clause in other.clauses:
        complements = [opposite(literal) for literal in clause]
        verdicts.append(solve(question, *complements, order=atoms))
    return verdicts


def place_of(standing):
    """Ascending tuples for standings of the same atoms that come one after the other."""
    return tuple([literal != atom_of(literal) for literal in standing])


def told_by(verdicts, other):
    """The pairs of a clause of a question and a paper for it, from the verdicts where the clause does not hold."""
    return tuple([(clause, verdict.lifted()) for clause, verdict in zip(other.clauses, verdicts)])

"""Derivations of clauses, and their papers.

A source is ("clause", number) or ("ring", bounds), as a clash is. A derivation is a pair of a source and rows: it
begins with the clause of the source, and each row, a pair of a pivot and a source, resolves it once.
"""

from ringclause.chains import total_of
from ringclause.literals import normal_form, opposite


def source_of(literal, reason):
    """The source of the reason clause of an entry that is not decided."""
    word, told = reason
    if word == "clause":
        return reason
    # The chain and the complement of the bound that it forces are a negative ring.
    return ("ring", (*told, opposite(literal)))


def clause_of_source(source, clauses):
    """The clause of a source; `clauses` has those of all numbers."""
    word, told = source
    if word == "clause":
        return clauses[told]
    return normal_form([opposite(bound) for bound in told])


def sources_of(derivation):
    """All sources of a derivation."""
    start, rows = derivation
    return [start, *[source for _, source in rows]]


def needed_numbers(derivation, learnt):
    """The numbers of all clauses that a derivation rests on, ascending; `learnt` has the derivations of learnt ones."""
    needed = {}
    waiting = [derivation]
    while waiting:
        current = waiting.pop()
        for word, told in sources_of(current):
            if word == "clause" and told not in needed:
                needed[told] = True
                if told in learnt:
                    waiting.append(learnt[told])
    return sorted(needed)


class Draft:
    """The steps of a paper that is being written, with the places of the sources that have a step."""

    def __init__(self):
        self.steps = []
        self._places = {}

    def give(self, number, clause):
        """Append the given step of a clause of the question."""
        self._place("clause", number)
        self.steps.append(("given", clause))

    def learn(self, number, clause, derivation):
        """Append the learn step of a derivation, behind the rings that it needs and that have no step yet."""
        start, rows = derivation
        for word, told in sources_of(derivation):
            if word == "ring" and (word, told) not in self._places:
                self._place(word, told)
                self.steps.append(("ring", told, total_of(told)))
        pairs = [(pivot, self._places[source]) for pivot, source in rows]
        first = self._places[start]
        self._place("clause", number)
        self.steps.append(("learn", clause, first, tuple(pairs)))

    def _place(self, word, told):
        self._places[word, told] = len(self.steps)


def derived_paper(derivation, outcome, clauses, learnt):
    """The paper of a derivation of the outcome.

    `clauses` has the clauses of all numbers, `learnt` the derivations of those that are not clauses of the question.
    """
    draft = Draft()
    for number in needed_numbers(derivation, learnt):
        if number in learnt:
            draft.learn(number, clauses[number], learnt[number])
        else:
            draft.give(number, clauses[number])
    draft.learn(None, outcome, derivation)
    return tuple(draft.steps)

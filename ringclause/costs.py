"""Least costs: answers in which weighted literals that hold weigh as little as possible."""

from ringclause.forms import check_weights
from ringclause.hitting import least_hitting
from ringclause.literals import check_literal, opposite
from ringclause.papers import clauses_of
from ringclause.solving import answered, solve


class Cheapest:
    """The least cost, the literals that are held for it, an answer, and papers which show that no answer costs less."""

    def __init__(self, cost, held, answer, papers):
        self.cost = cost
        self.held = held
        self.answer = answer
        self.papers = papers


def cheapest(question, weights):
    """The best answer of a question, with a dict of the weights of literals."""
    for value in weights:
        check_literal(value)
    check_weights(list(weights.values()))
    answered(question)
    literals = sorted(weights)
    costs = [weights[literal] for literal in literals]
    papers = []
    sets = []
    positions = ()
    verdict = asked_with(positions, question, literals)
    while verdict.word() == "no":
        paper = verdict.lifted()
        papers.append(paper)
        # One of these literals holds in every answer, and none of them was allowed to.
        outcome = clauses_of(paper)[-1]
        sets.append([literals.index(literal) for literal in outcome])
        positions = least_hitting(sets, costs)
        verdict = asked_with(positions, question, literals)
    held = [literals[position] for position in positions]
    return Cheapest(sum([weights[literal] for literal in held]), tuple(held), verdict.answer, tuple(papers))


def asked_with(positions, question, literals):
    """The verdict of the question under the complements of all literals but those at the positions."""
    others = [opposite(literal) for position, literal in enumerate(literals) if position not in positions]
    return solve(question, *others)

"""Least cores: the best suppositions under which a question has no answer."""

from ringclause.errors import HasAnswer, InvalidWeights
from ringclause.forms import check_weights
from ringclause.hitting import least_hitting
from ringclause.literals import check_literal, holds
from ringclause.solving import solve


class Core:
    """The best core, its paper, and the barriers that no core passes by."""

    def __init__(self, positions, weight, paper, barriers):
        self.positions = positions
        self.weight = weight
        self.paper = paper
        self.barriers = barriers


def least_core(question, suppositions, weights=None):
    """The best positions of suppositions under which the question has no answer."""
    for literal in suppositions:
        check_literal(literal)
    costs = checked_weights(suppositions, weights)
    whole = solve(question, *suppositions)
    if whole.word() == "yes":
        raise HasAnswer(whole.answer)
    positions = ()
    barriers = ()
    verdict = asked_at(positions, question, suppositions)
    while verdict.word() == "yes":
        left = [position for position, literal in enumerate(suppositions) if not holds(literal, verdict.answer)]
        barriers = (*barriers, (tuple(left), verdict.answer))
        positions = least_hitting([missed for missed, _ in barriers], costs)
        verdict = asked_at(positions, question, suppositions)
    return Core(positions, sum([costs[position] for position in positions]), verdict.paper, barriers)


def checked_weights(suppositions, weights):
    """The weights of the suppositions, 1 for each without weights."""
    if weights is None:
        return [1 for _ in suppositions]
    if not isinstance(weights, (list, tuple)) or len(weights) != len(suppositions):
        raise InvalidWeights()
    check_weights(weights)
    return weights


def asked_at(positions, question, suppositions):
    """The verdict of the question under the suppositions at the positions.

    With all of them as its order, an answer fulfils as many as it can: one more would take away another one. So the
    barriers are few.
    """
    chosen = [suppositions[position] for position in positions]
    return solve(question, *chosen, order=suppositions)

"""Gaps: the greatest difference of two moments in all answers of a question."""

from ringclause.errors import UnknownMoment
from ringclause.nets import net_of
from ringclause.solving import answered, solve
from ringclause.strategy import least_values


class Gap:
    """The greatest difference with an answer and a paper, or None with an answer and the moments that may move on."""

    def __init__(self, greatest, answer, moving, paper):
        self.greatest = greatest
        self.answer = answer
        self.moving = moving
        self.paper = paper


def greatest_gap(question, x, y):
    """The greatest value of `x` minus `y` in all answers."""
    for name in (x, y):
        if name not in question.moments:
            raise UnknownMoment(name)
    verdict = answered(question)
    net = net_of(verdict.standing, question.moments)
    step = 1
    # Steps that grow while they succeed keep the number of searches small where very many differences are possible.
    while net.most(x, y) is not None:
        gap = net.most(x, y)
        wider = solve(question, ("most", y, x, -gap - step))
        if wider.word() == "yes":
            verdict = wider
            net = net_of(verdict.standing, question.moments)
            step = 2 * step
        elif step > 1:
            step = step // 2
        else:
            values = least_values((*verdict.standing, ("most", y, x, -gap)), question.moments)
            return Gap(gap, values, None, wider.lifted())
    return Gap(None, verdict.answer, net.carried(x), None)


def gap_range(question, x, y):
    """The pair of the least and the greatest value of `x` minus `y`, each None if there is none."""
    greatest = greatest_gap(question, x, y).greatest
    reverse = greatest_gap(question, y, x).greatest
    return (None if reverse is None else -reverse, greatest)

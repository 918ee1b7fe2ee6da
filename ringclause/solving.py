"""Solving: the search of a question under suppositions, from the beginning to its end."""

from ringclause.errors import NoAnswer
from ringclause.literals import check_literal, complement
from ringclause.machine import PACE, SPREAD, Machine
from ringclause.questions import Question
from ringclause.strategy import planned
from ringclause.verdicts import No, Yes


def solve(question, *suppositions, order=(), pace=PACE, spread=SPREAD):
    """The verdict of a question under suppositions; the literals of `order` are decided first."""
    asked = without_duplicates(suppositions)
    whole = question & Question.units(*asked)
    machine, log = searched(whole, order, pace, spread)
    if machine.state == "yes":
        return yes_of(question, asked, machine, log)
    return no_of(question, asked, log, machine.refutation())


def answered(question):
    """The verdict of a question that has an answer."""
    verdict = solve(question)
    if verdict.word() == "no":
        raise NoAnswer(verdict.paper)
    return verdict


def without_duplicates(literals):
    """The literals, each at its first place."""
    for literal in literals:
        check_literal(literal)
    return tuple({literal: True for literal in literals})


def searched(question, order, pace, spread):
    """A machine that has done the planned deeds until its end, and the tuple of these deeds."""
    machine = Machine(question, extra=order, pace=pace, spread=spread)
    log = []
    deed = planned(machine, *order)
    while deed is not None:
        machine.do(deed)
        log.append(deed)
        deed = planned(machine, *order)
    return (machine, tuple(log))


def yes_of(question, suppositions, machine, log):
    """The verdict of a search that ended with yes."""
    _, answer = log[-1]
    standing = [atom if machine.truth_of(atom) == "true" else complement(atom) for atom in machine.atoms]
    return Yes(question, suppositions, log, answer, tuple(standing))


def no_of(question, suppositions, log, paper):
    """The verdict of a search that ended with no, with a paper for the question and the suppositions."""
    given = {clause: True for clause in given_clauses(paper)}
    core = [literal for literal in suppositions if (literal,) in given and (literal,) not in question]
    return No(question, suppositions, log, paper, tuple(core))


def given_clauses(paper):
    """The clauses of the given steps of a right paper, in order."""
    return [step[1] for step in paper if step[0] == "given"]

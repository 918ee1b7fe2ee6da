"""Surveys: which atoms of a question are settled."""

from ringclause.literals import opposite
from ringclause.solving import answered, solve


class Survey:
    """The literals that hold in all answers, with papers, and the atoms that do not always hold, with answers."""

    def __init__(self, sure, unsure):
        self.sure = sure
        self.unsure = unsure


def survey(question):
    """The survey of a question that has an answer."""
    verdict = answered(question)
    shown = {literal: verdict.answer for literal in verdict.standing}
    papers = {}
    wished = [opposite(literal) for literal in verdict.standing]
    while wished:
        # With all that is wished for as its order, an answer shows as much of it as it can.
        verdict = solve(question, wished[0], order=wished)
        if verdict.word() == "no":
            papers[opposite(wished[0])] = verdict.lifted()
        else:
            for literal in verdict.standing:
                shown.setdefault(literal, verdict.answer)
        wished = [literal for literal in wished[1:] if literal not in shown]
    return survey_of(question.atoms, shown, papers)


def survey_of(atoms, shown, papers):
    """The survey with the values under which literals hold, and the papers of those that are sure."""
    pairs = [(atom, opposite(atom)) for atom in atoms]
    sure = [(literal, papers[literal]) for pair in pairs for literal in pair if literal in papers]
    unsure = [(atom, shown[atom], shown[other]) for atom, other in pairs if atom in shown and other in shown]
    return Survey(tuple(sure), tuple(unsure))

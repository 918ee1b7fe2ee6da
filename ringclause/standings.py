"""All standings of some literals that answers of a question have, in order."""

from ringclause.literals import opposite
from ringclause.solving import solve
from ringclause.strategy import preferred


def standings(question, *literals):
    """Yield pairs of a choice of the literals or their complements and values; without literals, of the atoms."""
    wanted = preferred((), literals) or question.atoms
    beginnings = [()]
    while beginnings:
        begun = beginnings.pop()
        verdict = solve(question, *begun, order=wanted)
        if verdict.word() == "yes":
            chosen = tuple([literal if literal in verdict.standing else opposite(literal) for literal in wanted])
            yield (chosen, verdict.answer)
            beginnings.extend(turned(chosen, wanted, len(begun)))


def turned(chosen, wanted, settled):
    """The beginnings of all later choices that share the settled literals with the chosen one, the next ones last.

    Each agrees with the chosen one up to a literal that stands there as it is wanted, and has the complement of this
    literal. Where a literal does not stand as it is wanted, no answer with the same literals before it has it so.
    """
    places = [place for place in range(settled, len(wanted)) if chosen[place] == wanted[place]]
    return [(*chosen[:place], opposite(chosen[place])) for place in places]

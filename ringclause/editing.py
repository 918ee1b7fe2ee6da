"""Papers made from papers: cut, joined and lifted."""

from ringclause.papers import clause_of_step, clauses_of, rows_clause


def cut_paper(paper):
    """The paper with its last step and the steps that it needs alone."""
    clauses_of(paper)
    return cut_steps(paper)


def join_papers(*papers):
    """The papers put together, cut to what the last one needs; outcomes of earlier papers take the place of givens."""
    outcomes = [clauses_of(paper)[-1] for paper in papers]
    steps = []
    ends = {}
    end = 0
    for paper, outcome in zip(papers, outcomes):
        # Where each step of this paper stands in the joined one.
        places = []
        for step in paper:
            if step[0] == "given" and step[1] in ends:
                places.append(ends[step[1]])
            else:
                places.append(len(steps))
                steps.append(renumbered(step, places))
        end = places[-1]
        ends.setdefault(outcome, end)
    return cut_steps(steps[:end + 1])


def lift_paper(paper, literals):
    """The paper without the literals as given clauses; their complements join the clauses that follow from them."""
    clauses_of(paper)
    steps = []
    clauses = []
    for step in paper:
        lifted = lifted_step(step, literals, clauses)
        steps.append(lifted)
        clauses.append(clause_of_step(lifted, clauses, None))
    return tuple(steps)


def cut_steps(steps):
    """The last one of right steps and those that it needs, renumbered."""
    needed = {len(steps) - 1: True}
    for index in reversed(range(len(steps))):
        if index in needed:
            for earlier in references(steps[index]):
                needed[earlier] = True
    places = {}
    kept = []
    for index, step in enumerate(steps):
        if index in needed:
            places[index] = len(kept)
            kept.append(renumbered(step, places))
    return tuple(kept)


def references(step):
    """The indexes of the steps to which a right step refers."""
    if step[0] != "learn":
        return []
    first, rows = step[2:]
    return [first, *[index for _, index in rows]]


def renumbered(step, places):
    """The step with the places of the steps to which it refers instead of their indexes."""
    if step[0] != "learn":
        return step
    word, clause, first, rows = step
    moved = [(pivot, places[index]) for pivot, index in rows]
    return (word, clause, places[first], tuple(moved))


def lifted_step(step, literals, clauses):
    """The lifted step behind lifted steps with these clauses."""
    if step[0] == "given" and len(step[1]) == 1 and step[1][0] in literals:
        return ("either", step[1][0])
    if step[0] != "learn":
        return step
    word, _, first, rows = step
    return (word, rows_clause(first, rows, clauses), first, rows)

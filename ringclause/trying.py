"""Trying: all values of a question with small integers, in order."""

from ringclause.literals import clauses_stand, is_bound, moments_of, truths_of


def tries(question, top):
    """Yield all values with moments from 0 to `top` that fulfil the question."""
    # The empty clause has no last name, at which it could be refused.
    if () not in question:
        places = places_of(question)
        start = ((), ())
        yield from completed(places, top, start)


def completed(places, top, values):
    """Yield the values that fulfil the question and agree with `values` in the names before the places."""
    if len(places) == 0:
        yield values
    else:
        is_truth, name, closing = places[0]
        others = places[1:]
        for longer in lengthened(values, is_truth, name, top):
            if clauses_stand(closing, longer):
                yield from completed(others, top, longer)


def lengthened(values, is_truth, name, top):
    """Yield the values with one more name, in the order of trying."""
    names, times = values
    if is_truth:
        yield values
        yield (names + (name,), times)
    else:
        for integer in range(top + 1):
            yield (names, times + ((name, integer),))


def places_of(question):
    """For each name, in the order of trying: whether it is a truth, the name, and the clauses that end with it."""
    truths = [(True, name) for name in question.truths]
    moments = [(False, name) for name in question.moments]
    endings = [(last_name(clause), clause) for clause in question.clauses]
    places = []
    for is_truth, name in truths + moments:
        closing = [clause for ending, clause in endings if ending == (is_truth, name)]
        places.append((is_truth, name, closing))
    return places


def last_name(clause):
    """The name of the clause that is tried last: whether it is a truth, and the name; None for the empty clause."""
    named = [(True, name) for name in truths_of(clause)] + [(False, name) for name in moments_of(clause)]
    return named[-1] if named else None


def reach(question):
    """An integer up to which trying finds an answer, if there is one."""
    # An atom and its complement have the same two numbers, so the atoms stand for all bounds of the question.
    limits = [atom[3] for atom in question.atoms if is_bound(atom)]
    widths = [max(-limit, limit + 1) for limit in limits]
    return (len(question.moments) - 1) * max([0, *widths])

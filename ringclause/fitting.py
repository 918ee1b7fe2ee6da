"""Fitting: clauses of told literals that all good values fulfil and no bad values do."""

from ringclause.forms import check_limit
from ringclause.literals import clause_of, holds
from ringclause.questions import Question
from ringclause.solving import solve


class Fitting:
    """What was found where a fit was asked for."""

    def word(self):
        """What was found in one word."""
        return "fitting"


class Fit(Fitting):
    """A fit with the fewest clauses, and a paper which shows that fewer do not do, None for no clause."""

    def __init__(self, question, paper):
        self.question = question
        self.paper = paper

    def word(self):
        """What was found in one word."""
        return "fit"


class Twins(Fitting):
    """The positions of good and bad values that no clause of the literals tells apart."""

    def __init__(self, good, bad):
        self.good = good
        self.bad = bad

    def word(self):
        """What was found in one word."""
        return "twins"


class Short(Fitting):
    """A paper which shows that the clauses that were allowed are too few."""

    def __init__(self, paper):
        self.paper = paper

    def word(self):
        """What was found in one word."""
        return "short"


def fit_question(good, bad, literals, count):
    """The question whose answers tell the fits with so many clauses."""
    kinds = clause_of(literals)
    clauses = []
    for values in good:
        held = places_held(kinds, values)
        clauses.extend([[("yes", name_of_part(row, place)) for place in held] for row in range(count)])
    for number, values in enumerate(bad):
        held = places_held(kinds, values)
        clauses.append([("yes", name_of_refusal(row, number)) for row in range(count)])
        clauses.extend([[("no", name_of_refusal(row, number)), ("no", name_of_part(row, place))]
                        for row in range(count) for place in held])
    return Question(*clauses)


def fit(good, bad, literals, most):
    """A fit with the fewest clauses, or why there is none with at most so many."""
    kinds = clause_of(literals)
    check_limit(most, 0)
    twins = pairs_of_twins(good, bad, kinds)
    if twins:
        first, second = twins[0]
        return Twins(first, second)
    paper = None
    count = 0
    # Without twins one clause for each of the bad values is enough, so a large limit is never reached.
    while count <= most:
        verdict = solve(fit_question(good, bad, kinds, count))
        if verdict.word() == "yes":
            return Fit(told_fit(verdict.answer, kinds, count), paper)
        paper = verdict.paper
        count += 1
    return Short(paper)


def pairs_of_twins(good, bad, kinds):
    """The ascending pairs of positions of good and bad values such that the bad ones fulfil what the good ones do."""
    pairs = []
    for first, values in enumerate(good):
        held = places_held(kinds, values)
        for second, others in enumerate(bad):
            if all([holds(kinds[place], others) for place in held]):
                pairs.append((first, second))
    return pairs


def told_fit(answer, kinds, count):
    """The fit that an answer of a fit question tells."""
    names, _ = answer
    clauses = [[literal for place, literal in enumerate(kinds) if name_of_part(row, place) in names]
               for row in range(count)]
    return Question(*clauses)


def places_held(literals, values):
    """The places of the literals that hold."""
    return [place for place, literal in enumerate(literals) if holds(literal, values)]


def name_of_part(row, place):
    """The truth that a clause has a literal."""
    return f"c{row}l{place}"


def name_of_refusal(row, number):
    """The truth that a clause refuses bad values."""
    return f"b{row}x{number}"

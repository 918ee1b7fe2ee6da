"""Middles: what lies between two questions with no common answer, told in the names that both have."""

from ringclause.chains import chain_sum
from ringclause.editing import cut_steps
from ringclause.errors import HasAnswer, WrongStep
from ringclause.literals import check_listed, is_bound, literal_stands, moments_of
from ringclause.papers import followed
from ringclause.solving import solve


class Middle:
    """Gates, each of which has a truth value under values; that of the last one counts."""

    def __init__(self, gates):
        self.gates = gates

    def __call__(self, values):
        literals = [gate[1] for gate in self.gates if gate[0] == "lit"]
        check_listed(moments_of(literals), values)
        names, times = values
        table = dict(times)
        truths = []
        for word, told in self.gates:
            if word == "lit":
                truths.append(literal_stands(told, names, table))
            elif word == "all":
                truths.append(all([truths[index] for index in told]))
            else:
                truths.append(any([truths[index] for index in told]))
        return truths[-1]


class Sides:
    """Two questions, by whose names literals are told apart."""

    def __init__(self, first, second):
        self.first = first
        self.second = second

    def is_inner(self, literal):
        """True if all names of the literal occur in the second question."""
        return has_names_of(self.second, literal)

    def is_outer(self, literal):
        """True if the literal is not inner, and all its names occur in the first question."""
        return has_names_of(self.first, literal) and not self.is_inner(literal)


class Gates:
    """Gates that are being put together. A formula is the index of a gate, or True or False."""

    def __init__(self):
        self.gates = []
        self._places = {}

    def of_literal(self, literal):
        """The formula of a literal."""
        return self._gate("lit", literal)

    def of_formulas(self, word, formulas):
        """The formula that says all or any of the formulas."""
        alone = word == "all"
        indexes = [formula for formula in formulas if not isinstance(formula, bool)]
        constants = [formula for formula in formulas if isinstance(formula, bool)]
        if (not alone) in constants:
            return not alone
        if len(indexes) == 0:
            return alone
        refs = tuple(sorted(set(indexes)))
        return refs[0] if len(refs) == 1 else self._gate(word, refs)

    def as_middle(self, formula):
        """The middle with the truth value of a formula."""
        if isinstance(formula, bool):
            return Middle((("all" if formula else "any", ()),))
        return Middle(tuple(self.gates[:formula + 1]))

    def _gate(self, word, told):
        """The index of a gate, which is new or there already."""
        if (word, told) not in self._places:
            self._places[word, told] = len(self.gates)
            self.gates.append((word, told))
        return self._places[word, told]


def middle_of(first, second, paper):
    """The middle that a paper for both questions with the empty clause as its outcome tells."""
    sides = Sides(first, second)
    clauses, wrong = followed(paper, first & second)
    for index in range(len(clauses)):
        if not all([sides.is_inner(literal) or sides.is_outer(literal) for literal in literals_of(paper[index])]):
            raise WrongStep(index)
    if wrong is not None:
        raise WrongStep(wrong)
    if clauses[-1] != ():
        raise WrongStep(len(clauses) - 1)
    gates = Gates()
    formulas = []
    for step in cut_steps(paper):
        formulas.append(formula_of(step, formulas, sides, gates))
    return gates.as_middle(formulas[-1])


def between(first, second):
    """A middle of two questions with no common answer."""
    verdict = solve(first & second)
    if verdict.word() == "yes":
        raise HasAnswer(verdict.answer)
    return middle_of(first, second, verdict.paper)


def has_names_of(question, literal):
    """True if the question has all names of the literal."""
    if is_bound(literal):
        return literal[1] in question.moments and literal[2] in question.moments
    return literal[1] in question.truths


def literals_of(step):
    """The literals of a right step; the pivots of a learn step are among those of earlier steps."""
    word, told = step[:2]
    return [told] if word == "either" else told


def formula_of(step, formulas, sides, gates):
    """The formula of a right step behind steps with these formulas."""
    word, told = step[:2]
    if word == "given":
        return formula_of_given(told, sides, gates)
    if word == "either":
        return not sides.is_outer(told)
    if word == "ring":
        return formula_of_ring(told, sides, gates)
    first, rows = step[2:]
    formula = formulas[first]
    for pivot, index in rows:
        joining = "any" if sides.is_outer(pivot) else "all"
        formula = gates.of_formulas(joining, (formula, formulas[index]))
    return formula


def formula_of_given(clause, sides, gates):
    """What a clause of the first question says in common names; a clause of the second one alone says nothing."""
    if clause not in sides.first:
        return True
    return gates.of_formulas("any", [gates.of_literal(literal) for literal in clause if sides.is_inner(literal)])


def formula_of_ring(bounds, sides, gates):
    """What the outer bounds of a ring say about the moments at which it leaves the first question."""
    if all([sides.is_outer(bound) for bound in bounds]):
        return False
    return gates.of_formulas("all", [formula_of_run(run, gates) for run in outer_runs(bounds, sides)])


def outer_runs(bounds, sides):
    """The longest runs of outer bounds in a ring that has an inner one, each as a list."""
    inner = [place for place, bound in enumerate(bounds) if sides.is_inner(bound)]
    turned = bounds[inner[0]:] + bounds[:inner[0]]
    runs = []
    # The first bound is inner, so no run goes over the end.
    for before, bound in zip(turned, turned[1:]):
        if sides.is_outer(bound):
            if sides.is_inner(before):
                runs.append([])
            runs[-1].append(bound)
    return runs


def formula_of_run(run, gates):
    """What a run of outer bounds says about its ends."""
    start, end, total = chain_sum(run)
    if start == end:
        return total >= 0
    return gates.of_literal(("most", start, end, total))

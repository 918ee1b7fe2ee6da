"""The machine: it searches one question by deeds, each of which is held against the rules."""

from ringclause.chains import chain_sum, is_chain, is_ring, total_of
from ringclause.derivations import clause_of_source, derived_paper, source_of
from ringclause.errors import NoPaper, NotAllowed, UnknownLiteral, UnknownNumber
from ringclause.forms import check_limit, is_form, is_index, is_values
from ringclause.literals import (
    atoms_of, check_literal, is_bound, is_clause, is_literal, literal_stands, moments_of, opposite)
from ringclause.papers import resolvent
from ringclause.trails import empty_trail, extended

PACE = 4
SPREAD = 2
DECIDED = ("decided",)


class Machine:
    """A search of one question: a trail of literals, numbered clauses, and deeds that change them."""

    def __init__(self, question, *, extra=(), pace=PACE, spread=SPREAD):
        for literal in extra:
            check_literal(literal)
        check_limit(pace, 1)
        check_limit(spread, 0)
        self.question = question
        self.atoms = atoms_of([*question.atoms, *extra])
        self.pace = pace
        self.spread = spread
        self.state = "open"
        self.restarts = 0
        self.since = 0
        self.learnt = ()
        self._moments = moments_of(self.atoms)
        literals = [*self.atoms, *[opposite(atom) for atom in self.atoms]]
        self._known = {literal: True for literal in literals}
        self._bounds = sorted([literal for literal in literals if is_bound(literal)])
        # The powers of N + 1, the last one of which is B.
        self._powers = powers_of(len(self.atoms) + 1)
        self.limit = ((self._powers[-1] - 1) // pace + 1) * self._powers[-1]
        # What deeds change is replaced, never modified, so that a memo may have it as it is.
        self._trail = empty_trail(self._moments)
        self._clauses = question.clauses
        self._active = {number: clause for number, clause in enumerate(question.clauses)}
        self._derivations = {}
        self._end = None
        self._look()

    def truth_of(self, literal):
        """Whether a literal is "true", "false" or "free"."""
        if not self._is_known(literal):
            raise UnknownLiteral(literal)
        if self._trail.is_free(literal):
            return "free"
        return "false" if self._trail.is_false(literal) else "true"

    def clause_at(self, number):
        """The clause of a number, also a forgotten one."""
        if not is_index(number) or number >= len(self._clauses):
            raise UnknownNumber(number)
        return self._clauses[number]

    def clashes(self):
        """The clashes: clauses by ascending number, then the ring of the true bounds."""
        return self._clashes

    def forced(self):
        """The pairs of a forced literal and its reason: by clauses, then by chains; none where there is a clash."""
        return self._forced

    def resolved(self, clash, steps):
        """The clause of a clash that is resolved so often, None if the values tell no such thing."""
        if not is_index(steps) or not self._is_clash(clash):
            return None
        clauses = self.resolutions(clash)
        return clauses[steps] if steps < len(clauses) else None

    def resolutions(self, clash):
        """The clauses of a clash that is resolved 0, 1, .. times, as often as it can be."""
        clauses, _ = self._resolving(clash)
        return clauses

    def is_asserting(self, clause):
        """Whether exactly one literal of a clause of false literals has the greatest level, and that is at least 1."""
        levels = sorted([self._trail.level_of(literal) for literal in clause])
        if len(levels) == 0 or levels[-1] == 0:
            return False
        return len(levels) == 1 or levels[-2] < levels[-1]

    def allows(self, deed):
        """Whether a deed, which may be any value, is allowed now."""
        if self.state != "open":
            return False
        if is_form(deed, "put", 3):
            return self._may_enter(deed[1]) and self._forces(deed[2], deed[1])
        if is_form(deed, "decide", 2):
            return self._may_enter(deed[1])
        if is_form(deed, "learn", 4):
            return self._may_learn(deed[1], deed[2], deed[3])
        if is_form(deed, "restart", 1):
            return self._may_restart()
        if is_form(deed, "yes", 2):
            return self._may_end_with(deed[1])
        if is_form(deed, "no", 2):
            return self._is_clash(deed[1]) and self._is_settled(deed[1])
        return False

    def do(self, deed):
        """Do a deed that is allowed."""
        if not self.allows(deed):
            raise NotAllowed(deed)
        word, *parts = deed
        if word == "put":
            self._trail = self._trail.with_entry(parts[0], self.level, parts[1])
        elif word == "decide":
            self._trail = self._trail.with_entry(parts[0], self.level + 1, DECIDED)
        elif word == "learn":
            self._learn(*parts)
        elif word == "restart":
            self._restart()
        else:
            self.state = word
            self._end = parts[0]
        self._look()

    def paper_of(self, number):
        """A cut paper for the question with the clause of a number as its outcome."""
        clause = self.clause_at(number)
        if number not in self._derivations:
            return (("given", clause),)
        return derived_paper(self._derivations[number], clause, self._clauses, self._derivations)

    def refutation(self):
        """A cut paper for the question with the empty clause as its outcome."""
        if self.state != "no":
            raise NoPaper()
        clauses, rows = self._resolving(self._end)
        if clauses == ((),):
            # A ring always has bounds and a learnt clause a literal, so this is a clause of the question.
            return (("given", ()),)
        return derived_paper((self._end, rows), (), self._clauses, self._derivations)

    def memo(self):
        """All that deeds change, for `restore`."""
        return (self._trail, self._clauses, self._active, self._derivations, self._end,
                self.state, self.restarts, self.since, self.learnt)

    def restore(self, memo):
        """Go to the state of a memo of a machine with the same arguments."""
        self._trail, self._clauses, self._active, self._derivations, self._end = memo[:5]
        self.state, self.restarts, self.since, self.learnt = memo[5:]
        self._look()

    def _look(self):
        """Work out what the trail and the active clauses tell."""
        self.trail = self._trail.entries
        self.level = self._trail.level
        self.numbers = tuple(self._active)
        self.rank = self._worked_out_rank()
        clashes = []
        forced = []
        for number, clause in self._active.items():
            left = self._trail.left_of(clause)
            if len(left) == 0:
                clashes.append(("clause", number))
            elif len(left) == 1 and self._trail.is_free(left[0]):
                forced.append((left[0], ("clause", number)))
        ring = self._trail.negative_ring()
        if ring is not None:
            clashes.append(("ring", ring))
        self._clashes = tuple(clashes)
        self._forced = () if clashes else (*forced, *self._forced_by_chains())

    def _worked_out_rank(self):
        top = len(self.atoms)
        inner = sum([self._powers[top - entry[1]] for entry in self.trail])
        return self.restarts * self._powers[-1] + inner

    def _forced_by_chains(self):
        found = []
        for bound in self._bounds:
            if self._trail.is_free(bound):
                chain = self._trail.chain_for(bound)
                if chain is not None:
                    found.append((bound, ("chain", chain)))
        return found

    def _is_known(self, value):
        return is_literal(value) and value in self._known

    def _is_active(self, number):
        return is_index(number) and number in self._active

    def _is_clash(self, value):
        """True if the value is a clash."""
        if is_form(value, "clause", 2):
            return self._is_active(value[1]) and self._trail.left_of(self._clauses[value[1]]) == []
        if is_form(value, "ring", 2):
            bounds = value[1]
            return isinstance(bounds, tuple) and is_ring(bounds) and total_of(bounds) < 0 and self._are_true(bounds)
        return False

    def _are_true(self, literals):
        return all([self._trail.is_true(literal) for literal in literals])

    def _is_settled(self, clash):
        """Whether every literal of the clash clause has level 0."""
        clause = clause_of_source(clash, self._clauses)
        return all([self._trail.level_of(literal) == 0 for literal in clause])

    def _resolving(self, clash):
        """The clauses of `resolutions`, and the rows that lead from each clause to the next one."""
        clause = clause_of_source(clash, self._clauses)
        clauses = [clause]
        rows = []
        row = self._next_row(clause)
        while row is not None:
            pivot, source = row
            clause = resolvent(clause, pivot, clause_of_source(source, self._clauses))
            clauses.append(clause)
            rows.append(row)
            row = self._next_row(clause)
        return (tuple(clauses), tuple(rows))

    def _next_row(self, clause):
        """The pivot and source that a clause of false literals is resolved with, None if it can not be resolved."""
        if len(clause) == 0:
            return None
        latest = max([self._trail.place_of(literal) for literal in clause])
        literal, _, reason = self.trail[latest]
        if reason == DECIDED:
            return None
        return (opposite(literal), source_of(literal, reason))

    def _may_enter(self, literal):
        """Whether the value is a free literal, and nothing hinders that it enters the trail."""
        return not self._clashes and self._is_known(literal) and self._trail.is_free(literal)

    def _forces(self, reason, literal):
        """Whether the value is a reason that forces a free literal."""
        if is_form(reason, "clause", 2):
            return self._is_active(reason[1]) and self._trail.left_of(self._clauses[reason[1]]) == [literal]
        if is_form(reason, "chain", 2) and is_bound(literal):
            return self._is_chain_for(reason[1], literal)
        return False

    def _is_chain_for(self, bounds, bound):
        """Whether the value is a chain of true bounds that forces a bound."""
        if not isinstance(bounds, tuple) or not is_chain(bounds) or not self._are_true(bounds):
            return False
        first, second, total = chain_sum(bounds)
        return (first, second) == bound[1:3] and total <= bound[3]

    def _may_learn(self, clash, steps, clause):
        result = self.resolved(clash, steps)
        # Python takes True and 1 for equal, so a value that is no clause must not be compared.
        return result is not None and is_clause(clause) and clause == result and self.is_asserting(result)

    def _may_restart(self):
        return not self._clashes and self.level >= 1 and self.since >= self.pace * (self.restarts + 1)

    def _may_end_with(self, values):
        """Whether the value has the values of a yes that is allowed."""
        if self._clashes or len(self.trail) < len(self.atoms) or not is_values(values):
            return False
        names, times = values
        if tuple([name for name, _ in times]) != self._moments:
            return False
        # Without a clash the true literals hold if the bounds do and the names are those that the trail tells.
        table = dict(times)
        literals = [entry[0] for entry in self.trail]
        known = [name for name in names if ("yes", name) in self._known]
        return len(known) == len(names) and all([literal_stands(literal, names, table) for literal in literals])

    def _learn(self, clash, steps, clause):
        number = len(self._clauses)
        _, rows = self._resolving(clash)
        self._derivations = extended(self._derivations, number, (clash, rows[:steps]))
        levels = sorted([(self._trail.level_of(literal), literal) for literal in clause])
        spread = len({level for level, _ in levels})
        self.learnt = (*self.learnt, (number, clause, spread))
        self._clauses = (*self._clauses, clause)
        self._active = extended(self._active, number, clause)
        self.since += 1
        below = levels[-2][0] if len(levels) > 1 else 0
        self._trail = self._trail.up_to(below).with_entry(levels[-1][1], below, ("clause", number))

    def _restart(self):
        self._trail = self._trail.up_to(0)
        reasons = [entry[2] for entry in self._trail.entries]
        wide = {number: True for number, _, spread in self.learnt
                if spread > self.spread and ("clause", number) not in reasons}
        self._active = {number: clause for number, clause in self._active.items() if number not in wide}
        self.restarts += 1
        self.since = 0


def powers_of(base):
    """The powers of `base` with the exponents 0 to `base`."""
    found = [1]
    for _ in range(base):
        found.append(found[-1] * base)
    return found

"""Points 61 and 62: clauses that fit good and bad values."""

import itertools
import random
import unittest

from ringclause.errors import InvalidLimit, InvalidLiteral
from ringclause.fitting import Fit, Fitting, Short, Twins, fit, fit_question
from ringclause.literals import clause_of, complement, holds
from ringclause.questions import Question
from ringclause.solving import solve
from tests.cases import ProofCase
from tests.samples import HUGE, NO_LITERALS, Stubborn, most, no, yes

P, Q, R, S = yes("p"), yes("q"), yes("r"), yes("s")
NP, NQ, NR, NS = no("p"), no("q"), no("r"), no("s")
XY = most("x", "y", -1)
NO_COUNTS = [True, False, -1, -HUGE, None, "2", 2.0, (2,), [2], Stubborn()]


def names(*told):
    """Values of truths alone."""
    return told, ()


def slow_question(good, bad, literals, count):
    """The clauses of point 61."""
    chosen = sorted(set(literals))
    clauses = []
    for i in range(count):
        for values in good:
            clauses.append([yes(f"c{i}l{j}") for j, literal in enumerate(chosen) if holds(literal, values)])
        for k, values in enumerate(bad):
            for j, literal in enumerate(chosen):
                if holds(literal, values):
                    clauses.append([no(f"b{i}x{k}"), no(f"c{i}l{j}")])
    for k in range(len(bad)):
        clauses.append([yes(f"b{i}x{k}") for i in range(count)])
    return Question(*clauses)


def is_fit(question, good, bad):
    return all(question(values) for values in good) and not any(question(values) for values in bad)


def fewest_clauses(good, bad, literals):
    """The number of clauses of the smallest fit over all sets of clauses, None if there is none."""
    chosen = sorted(set(literals))
    clauses = [clause for many in range(len(chosen) + 1) for clause in itertools.combinations(chosen, many)]
    clauses = [clause for clause in clauses if is_fit(Question(clause), good, [])]
    for many in range(len(bad) + 1):
        for rows in itertools.combinations(clauses, many):
            if is_fit(Question(*rows), good, bad):
                return many
    return None


def slow_twins(good, bad, literals):
    return [(a, b) for a, values in enumerate(good) for b, others in enumerate(bad)
            if all(holds(literal, others) for literal in literals if holds(literal, values))]


class QuestionTest(ProofCase):
    def test_the_clauses(self):
        # The literals are ~p, q and r, as numbers 0, 1 and 2.
        good, bad = [names("p"), names("q")], [names("p", "r"), names()]
        self.assertEqual(fit_question(good, bad, [R, NP, Q], 1), Question(
            [], [yes("c0l0"), yes("c0l1")], [yes("b0x0")], [yes("b0x1")],
            [no("b0x0"), no("c0l2")], [no("b0x1"), no("c0l0")]))
        self.assertEqual(fit_question([names("q"), names("q", "r")], [names("p", "q")], [R, NP, Q], 2), Question(
            [yes("c0l0"), yes("c0l1")], [yes("c1l0"), yes("c1l1")],
            [yes("c0l0"), yes("c0l1"), yes("c0l2")], [yes("c1l0"), yes("c1l1"), yes("c1l2")],
            [yes("b0x0"), yes("b1x0")], [no("b0x0"), no("c0l1")], [no("b1x0"), no("c1l1")]))

    def test_bounds(self):
        good, bad = [((), (("x", 0), ("y", 1)))], [((), (("x", 1), ("y", 1)))]
        self.assertEqual(fit_question(good, bad, (P, XY, most("x", "y", 0)), 1), Question(
            [yes("c0l0"), yes("c0l1")], [yes("b0x0")], [no("b0x0"), no("c0l1")]))

    def test_no_good_or_no_bad_values(self):
        self.assertEqual(fit_question([], [], [P, Q], 3), Question())
        self.assertEqual(fit_question([names("p")], [], [P, Q], 2), Question([yes("c0l0")], [yes("c1l0")]))
        self.assertEqual(fit_question((), (names("q"),), [P, Q], 1), Question([yes("b0x0")], [no("b0x0"), no("c0l1")]))

    def test_no_clauses(self):
        self.assertEqual(fit_question([names("p")], [], [P], 0), Question())
        self.assertEqual(fit_question([names("p")], [names()], [P], 0), Question([]))
        self.assertEqual(fit_question([], [names()], [], 0), Question([]))

    def test_no_literals(self):
        self.assertEqual(fit_question([names()], [names("p")], [], 2), Question([], [yes("b0x0"), yes("b1x0")]))

    def test_duplicates(self):
        good, bad = [names("p")], [names("q")]
        self.assertEqual(fit_question(good, bad, [Q, P, P, Q], 2), fit_question(good, bad, (P, Q), 2))
        self.assertEqual(fit_question(good * 3, bad, [P, Q], 2), fit_question(good, bad, [P, Q], 2))
        self.assertEqual(fit_question(good, bad * 2, [P, Q], 1), Question(
            [yes("c0l0")], [yes("b0x0")], [yes("b0x1")], [no("b0x0"), no("c0l1")], [no("b0x1"), no("c0l1")]))

    def test_more_than_ten(self):
        literals = [yes(f"p{number}") for number in range(12)]
        question = fit_question([names("p11")], [names("p9")] * 11, literals, 1)
        self.assertIn((yes("c0l3"),), question)
        self.assertIn((no("b0x10"), no("c0l11")), question)

    def test_against_the_definition(self):
        chance = random.Random(61)
        for _ in range(100):
            good, bad, literals = some_case(chance)
            for count in range(4):
                question = fit_question(good, bad, literals, count)
                self.assertIsInstance(question, Question)
                self.assertEqual(question, slow_question(good, bad, literals, count))

    def test_wrong_literals(self):
        for value in NO_LITERALS:
            self.raises(InvalidLiteral, value, fit_question, [names()], [names("p")], [Q, value, None, P], 1)
            self.raises(InvalidLiteral, value, fit_question, [], [], (value, 7), 0)


def some_case(chance, many=4):
    pool = [P, NP, Q, NQ, R, NR, XY, complement(XY), most("x", "y", 1)]
    literals = [chance.choice(pool) for _ in range(chance.randrange(5))]

    def some_values():
        held = tuple(name for name in "pqr" if chance.random() < 0.5)
        return held, (("x", chance.randrange(4)), ("y", chance.randrange(4)))

    good = [some_values() for _ in range(chance.randrange(many))]
    return good, [some_values() for _ in range(chance.randrange(many))], literals


class FitCase(ProofCase):
    def check(self, good, bad, literals, limit):
        """The result is what point 62 says; its word."""
        before = list(good), list(bad), list(literals)
        found = fit(good, bad, literals, limit)
        self.assertEqual((list(good), list(bad), list(literals)), before)
        self.check_frozen_object(found)
        self.assertIsInstance(found, Fitting)
        fewest = fewest_clauses(good, bad, literals)
        twins = slow_twins(good, bad, literals)
        self.assertEqual(fewest is None, bool(twins))
        if fewest is None:
            self.assertIsInstance(found, Twins)
            self.assertEqual((found.good, found.bad), min(twins))
        elif fewest <= limit:
            self.assertIsInstance(found, Fit)
            self.check_fit(found, good, bad, literals, fewest)
        else:
            self.assertIsInstance(found, Short)
            self.assertEqual(self.outcome_of(fit_question(good, bad, literals, limit), found.paper), ())
        return found.word()

    def check_fit(self, found, good, bad, literals, fewest):
        self.assertEqual(len(found.question), fewest)
        self.assertTrue(is_fit(found.question, good, bad))
        self.assertTrue(all(literal in literals for clause in found.question.clauses for literal in clause))
        told, _ = solve(fit_question(good, bad, literals, fewest)).answer
        kinds = clause_of(literals)
        clauses = [[literal for j, literal in enumerate(kinds) if f"c{i}l{j}" in told] for i in range(fewest)]
        self.assertEqual(found.question, Question(*clauses))
        if fewest == 0:
            self.assertIsNone(found.paper)
        else:
            self.assertEqual(self.outcome_of(fit_question(good, bad, literals, fewest - 1), found.paper), ())


class FitTest(FitCase):
    def test_fits(self):
        good = [names("p"), names("q"), names("p", "q")]
        self.assertEqual(self.check(good, [names()], [P, Q], 4), "fit")
        self.assertEqual(fit(good, [names()], [P, Q], 4).question, Question([P, Q]))
        # Not both, and not none.
        good, bad = [names("p"), names("q")], [names(), names("p", "q")]
        self.assertEqual(self.check(good, bad, [P, Q, NP, NQ], 4), "fit")
        self.assertEqual(fit(good, bad, [P, Q, NP, NQ], 2).question, Question([P, Q], [NP, NQ]))

    def test_no_bad_values(self):
        for good in [[], [names()], [names("p"), names("q")]]:
            for literals in [[], [P], [NP, Q]]:
                for limit in [0, 3]:
                    found = fit(good, [], literals, limit)
                    self.assertEqual([found.word(), found.question, found.paper], ["fit", Question(), None])

    def test_no_good_values(self):
        for bad, literals in [([names("p")], [P, Q]), ([names(), names("p")], []), ([names("p"), names("q")], [P, Q])]:
            self.assertEqual(self.check([], bad, literals, 2), "fit")
            self.assertEqual(self.check([], bad, literals, 0), "short")

    def test_bounds(self):
        good = [((), (("x", 0), ("y", at))) for at in (1, 2, 5)]
        bad = [((), (("x", 0), ("y", 0))), ((), (("x", 0), ("y", 6)))]
        literals = [XY, most("y", "x", 5), most("x", "y", 0)]
        self.assertEqual(self.check(good, bad, literals, 2), "fit")
        self.assertEqual(fit(good, bad, literals, 2).question(bad[0]), False)
        self.assertEqual(self.check(good, bad, literals[:2], 1), "short")

    def test_twins(self):
        good, bad = [names("p"), names("p", "r")], [names(), names("p", "q"), names("p", "r")]
        for limit in [0, 1, HUGE]:
            found = fit(good, bad, [P, R], limit)
            self.assertEqual([found.word(), found.good, found.bad], ["twins", 0, 1])
        self.check(good, bad, [P, R], 2)
        found = fit([names("q"), names("p")], [names("q"), names("p"), names("p")], [P, NQ], 3)
        self.assertEqual([found.good, found.bad], [0, 0])
        found = fit([names("p"), names()], [names("q"), names("p")], [P, NP], 3)
        self.assertEqual([found.good, found.bad], [0, 1])
        found = fit([names()], [names("p")], [], 3)
        self.assertEqual([found.good, found.bad], [0, 0])

    def test_short(self):
        literals = [yes(name) for name in "pqrs"]
        bad = [names(*[name for name in "pqrs" if name != left]) for left in "pqrs"]
        for limit in range(4):
            self.assertEqual(self.check([names("p", "q", "r", "s")], bad, literals, limit), "short")
        for limit in [4, 5, HUGE]:
            self.assertEqual(self.check([names("p", "q", "r", "s")], bad, literals, limit), "fit")

    def test_no_clause_is_allowed(self):
        self.assertEqual(fit([names("p")], [names()], [P], 0).paper, (("given", ()),))
        self.assertEqual(self.check([names("p")], [names()], [P], 0), "short")
        self.assertEqual(self.check([names("p")], [], [P], 0), "fit")
        self.assertEqual(self.check([names("p")], [names("p")], [P], 0), "twins")

    def test_values_given_twice(self):
        self.assertEqual(self.check([names("p")] * 2, [names("q")] * 3, [P, Q, P, NQ], 1), "fit")
        self.assertEqual(self.check([names("p")] * 2, [names("p", "q")] * 2, [P, Q], 1), "twins")

    def test_words(self):
        self.assertEqual([Fitting().word(), Fit(Question(), None).word(), Twins(0, 1).word(), Short(()).word()],
                         ["fitting", "fit", "twins", "short"])

    def test_results_may_be_made(self):
        question = Question([P])
        self.assertEqual(vars(Fit(question, ("paper",))), {"question": question, "paper": ("paper",)})
        self.assertEqual(vars(Twins(2, 3)), {"good": 2, "bad": 3})
        self.assertEqual(vars(Short(("paper",))), {"paper": ("paper",)})

    def test_against_all_sets_of_clauses(self):
        chance = random.Random(62)
        found = []
        for _ in range(400):
            good, bad, literals = some_case(chance)
            limit = chance.randrange(4)
            found.append(self.check(good, bad, literals, limit))
            self.assertEqual(self.check(tuple(good), tuple(bad), tuple(literals), limit), found[-1])
        for word in ["fit", "twins", "short"]:
            self.assertGreater(found.count(word), 25, word)


class ErrorTest(ProofCase):
    def test_literals_come_first(self):
        for value in NO_LITERALS:
            self.raises(InvalidLiteral, value, fit, [names()], [names("p")], [Q, value, None, P], -1)
            self.raises(InvalidLiteral, value, fit, [], [], (value, 7), None)

    def test_then_the_limit(self):
        for value in NO_COUNTS:
            self.raises(InvalidLimit, value, fit, [names("p")], [names("q")], [P, Q], value)
            self.raises(InvalidLimit, value, fit, [names("p")], [names("p")], [P], value)
            self.raises(InvalidLimit, value, fit, [], [], [], value)


if __name__ == "__main__":
    unittest.main()

"""Points 20 to 23: papers, and resolving."""

import itertools
import random
import unittest

from ringclause.errors import InvalidClause, InvalidLiteral, InvalidPivot, WrongStep
from ringclause.literals import clause_holds, clause_of, complement
from ringclause.papers import check_paper, clauses_of, first_wrong_step, givens, resolve
from ringclause.questions import Question
from tests.samples import HUGE, NO_LITERALS, PLAIN, Stubborn, most, no, yes

P, Q = yes("p"), yes("q")
XY, YZ, ZX = most("x", "y", -1), most("y", "z", 0), most("z", "x", 0)
YX, ZY, XZ = most("y", "x", 0), most("z", "y", -1), most("x", "z", -1)
QUESTION = Question([XY, P], [no("p"), Q], [XY, no("q")], [YZ], [ZX], [P, Q])
PAPER = (
    ("given", (XY, P)),
    ("given", (no("p"), Q)),
    ("given", (XY, no("q"))),
    ("given", (YZ,)),
    ("given", (ZX,)),
    ("either", XY),
    ("ring", (XY, YZ, ZX), -1),
    ("learn", (XY,), 0, ((P, 1), (Q, 2))),
    ("learn", (XY, P), 0, ()),
    ("learn", (), 6, ((YX, 7), (ZY, 3), (XZ, 4))),
)
CLAUSES = ((XY, P), (no("p"), Q), (XY, no("q")), (YZ,), (ZX,), (XY, YX), (XZ, YX, ZY), (XY,), (XY, P), ())
# Values that are no step at all, whatever the question and the place are.
NO_STEPS = PLAIN + [
    (), [], ("given",), ("either",), ("ring",), ("learn",), ("given", (YZ,), 0), ("either", P, 0),
    ("ring", (XY, YZ, ZX)), ("ring", (XY, YZ, ZX), -1, 0), ("learn", (XY, P), 0), ("learn", (XY, P), 0, (), ()),
    ("learn", (XY, P)), ("take", (YZ,)), ("Given", (YZ,)), ("", (YZ,)), (b"given", (YZ,)), (None, (YZ,)), (True, P),
    ("given", P), ("rings", (XY, YZ, ZX), -1), ("both", P), (("given", (YZ,)),), (Stubborn(), (YZ,)),
    (["given"], (YZ,)), ((YZ,), "given"), ("given", (YZ,), None), "given", ("taught", (XY, P), 0, ()),
    ("ring", (XY, P), 0, ()), ("given", (XY, P), 0, ()), ("learn", (XY, YZ, ZX), -1), ("learn", (YZ,)), ("ring", P),
]
SPOILT = {
    # given: the clause is not in normal form, or it is no clause of the question
    0: [("given", (P, XY)), ("given", (XY, XY, P)), ("given", [XY, P]), ["given", (XY, P)], ("given", (list(XY), P)),
        ("given", (XY, list(P))), ("given", ((XY, P),)), ("either", (XY, P)), ("given", (most("x", "y", True), P)),
        ("given", (most("x", "y", -1.0), P)), ("given", (XY, ("yes", "P"))), ("given", Stubborn()),
        ("given", (Stubborn(), P))] + [("given", value) for value in PLAIN],
    # learn in the place of a given step: a negative index, which Python takes for that of a step before
    2: [("learn", (XY, Q), 0, ((P, -1),)), ("learn", (XY, Q), -2, ((P, 1),)), ("learn", (no("p"), Q), -1, ())],
    3: [("given", [YZ]), ("given", YZ), ("given", (list(YZ),)), ("given", (most("y", "z", False),)),
        ("given", (YZ, YZ)), ("given", (most("y", "y", 0),))],
    # either: no literal
    5: [("either", value) for value in NO_LITERALS] + [("either", (P,)), ["either", XY], ("either", list(XY))],
    # ring: not a tuple, no ring, not negative, a wrong total
    6: [("ring", [XY, YZ, ZX], -1), ["ring", (XY, YZ, ZX), -1], ("ring", (list(XY), YZ, ZX), -1), ("ring", (), 0),
        ("ring", (), -1), ("ring", (XY, YZ), -1), ("ring", (YZ, XY, ZX), -1), ("ring", (XY, ZX, YZ), -1),
        ("ring", (XY,), -1), ("ring", (YZ, ZX, most("x", "y", 0)), 0), ("ring", (YZ, ZX, most("x", "y", 0)), -1),
        ("ring", (YZ, ZX, most("x", "y", 3)), 3), ("ring", (XY, YZ, ZX), -2), ("ring", (XY, YZ, ZX), 0),
        ("ring", (XY, YZ, ZX), 1), ("ring", (XY, YZ, ZX), -1.0), ("ring", (XY, YZ, ZX), True), ("ring", (P, Q), -1),
        ("ring", (XY, YZ, most("z", "x", False)), -1), ("ring", (most("y", "x", True), most("x", "y", -2)), -1),
        ("ring", XY, -1), ("ring", (XY, YZ, ZX, P), -1), ("ring", (YZ, ZX, most("x", "y", 1)), 1),
        ("ring", -1, (XY, YZ, ZX)), ("ring", "xyz", -1), ("ring", ((XY, YZ, ZX),), -1)]
    + [("ring", (XY, YZ, ZX), value) for value in PLAIN if not isinstance(value, int) or value != -1],
    # learn: indexes, rows, pivots and the last clause
    7: [("learn", (XY,), first, ((P, 1), (Q, 2)))
        for first in [-1, -8, 7, 8, 1, 2, 9, HUGE, True, False, None, "0", 0.0, (0,), Stubborn()]]
    + [("learn", (XY,), 0, ((P, index), (Q, 2)))
       for index in [-1, -7, 7, 8, 0, 2, HUGE, True, False, None, "1", 1.0, (1,), Stubborn()]]
    + [("learn", (XY,), 0, ((pivot, 1), (Q, 2))) for pivot in [no("p"), Q, XY, YX, (P,), *NO_LITERALS]]
    + [("learn", clause, 0, ((P, 1), (Q, 2)))
       for clause in [(), (XY, P), (XY, Q), (XY, XY), [XY], XY, (YX,), (list(XY),), (most("x", "y", True),), *PLAIN]]
    + [("learn", (XY,), 0, rows)
       for rows in [(), ((P, 1),), ((Q, 2), (P, 1)), [(P, 1), (Q, 2)], ([P, 1], (Q, 2)), ((P, 1), [Q, 2]),
                    ((1, P), (2, Q)), ((P, 1, 0), (Q, 2)), ((P,), (Q, 2)), ((P, 1), (Q, 2), ()), ((P, 1), (Q, 2, 0)),
                    ((P, 1), (Q, 2), (P, 1)), ((P, 1), (P, 1), (Q, 2)), ((P, 1), (Q, 7)), ((P, 1), Q, 2), (P, 1),
                    (((P, 1), (Q, 2)),), ((P, 1), (Q, 2), None), ((P, 1), "q2"), *PLAIN]]
    + [["learn", (XY,), 0, ((P, 1), (Q, 2))], ("learn", 0, (XY,), ((P, 1), (Q, 2)))],
    8: [("learn", (XY, P), index, ()) for index in [1, 7, 8, 9, -1, -8, -9, False, True]]
    + [("learn", (P, XY), 0, ()), ("learn", (XY,), 0, ()), ("learn", (XY,), -1, ()), ("learn", (XY, P), 0, []),
       ("learn", (XY, P, Q), 0, ())],
    9: [("learn", (XY,), 6, ((YX, 7), (ZY, 3), (XZ, 4))), ("learn", (), 6, ((YX, 7), (ZY, 3), (XZ, 9))),
        ("learn", (), 6, ((YX, 7), (ZY, 3))), ("learn", (), 6, ((XY, 7), (ZY, 3), (XZ, 4))),
        ("learn", (), 6, ((YX, 7), (ZY, 3), (XZ, 4), (XZ, 4))), ("learn", [], 6, ((YX, 7), (ZY, 3), (XZ, 4)))],
}


def with_step(paper, index, step):
    return (*paper[:index], step, *paper[index + 1:])


def some_paper(chance):
    """A question and a right paper for it, from steps that are chosen by chance."""
    literals = [P, Q, no("p"), no("q")]
    literals += [most(*pair, k) for pair in itertools.permutations("xyz", 2) for k in (-1, 0, 1)]
    question = Question([most("x", "y", 3), most("y", "z", 3)],
                        *[chance.sample(literals, chance.randrange(1, 4)) for _ in range(chance.randrange(1, 6))])
    steps = [("given", clause) for clause in chance.sample(question.clauses, len(question) - 1)]
    steps.append(("either", chance.choice(literals)))
    bounds = [most(x, y, chance.randrange(-2, 2)) for x, y in chance.choice([["xy", "yx"], ["xz", "zy", "yx"]])]
    total = sum(bound[3] for bound in bounds)
    if total < 0:
        steps.append(("ring", tuple(bounds), total))
    for _ in range(6):
        steps.extend(some_learn_step(chance, clauses_of(steps)))
    return question, tuple(steps)


def some_learn_step(chance, clauses):
    """A list of at most one learn step behind steps with these clauses."""
    first = chance.randrange(len(clauses))
    current, rows = clauses[first], []
    for _ in range(chance.randrange(3)):
        moves = [(pivot, index) for pivot in current for index, other in enumerate(clauses)
                 if complement(pivot) in other]
        if moves:
            rows.append(chance.choice(moves))
            current = resolve(current, rows[-1][0], clauses[rows[-1][1]])
    return [("learn", current, first, tuple(rows))] if len(current) < 7 else []


class RightPapersTest(unittest.TestCase):
    def test_every_beginning(self):
        for many in range(1, len(PAPER) + 1):
            for paper in [PAPER[:many], list(PAPER[:many])]:
                self.assertIsNone(first_wrong_step(QUESTION, paper))
                self.assertEqual(check_paper(QUESTION, paper), CLAUSES[many - 1])
                self.assertEqual(clauses_of(paper), CLAUSES[:many])
                self.assertIsInstance(clauses_of(paper), tuple)

    def test_givens(self):
        expected = ((XY, no("q")), (XY, P), (YZ,), (ZX,), (no("p"), Q))
        for paper in [PAPER, list(PAPER), PAPER[:5][::-1], PAPER + PAPER[:5]]:
            self.assertEqual(givens(paper), expected)
        self.assertEqual(givens([("either", P)]), ())
        self.assertEqual(givens((("given", (Q,)), ("given", ()), ("given", (Q,)))), ((), (Q,)))

    def test_either(self):
        for literal in [P, no("p"), XY, YX, most("y", "x", HUGE)]:
            clause = clause_of([literal, complement(literal)])
            self.assertEqual(check_paper(Question(), [("either", literal)]), clause)

    def test_rings(self):
        for bounds, clause in [
            ((most("x", "y", -1), most("y", "x", -1)), (most("x", "y", 0), most("y", "x", 0))),
            ((most("x", "y", HUGE), most("y", "x", -HUGE - 1)), (most("x", "y", HUGE), most("y", "x", -HUGE - 1))),
            ((YZ, ZX, XY), (XZ, YX, ZY)), ((ZX, XY, YZ), (XZ, YX, ZY)), ((XY, YZ, ZX, XY, YZ, ZX), (XZ, YX, ZY)),
        ]:
            total = sum(bound[3] for bound in bounds)
            self.assertEqual(check_paper(Question(), (("ring", bounds, total),)), clause)

    def test_learn(self):
        question = Question([P], [no("p")], [no("p"), P])
        given = [("given", (P,)), ("given", (no("p"),)), ("given", (no("p"), P))]
        for step in [("learn", (), 0, ((P, 1),)), ("learn", (), 1, ((no("p"), 0),)), ("learn", (P,), 0, ((P, 2),)),
                     ("learn", (P,), 2, ((no("p"), 0),)), ("learn", (no("p"),), 2, ((P, 1),)),
                     ("learn", (no("p"), P), 2, ((P, 2), (P, 2))), ("learn", (P,), 0, ()),
                     ("learn", (), 0, ((P, 2), (P, 2), (P, 1)))]:
            self.assertEqual(check_paper(question, [*given, step]), step[1])

    def test_the_empty_clause_as_given(self):
        paper = (("given", ()),)
        self.assertEqual(check_paper(Question([]), paper), ())
        self.assertEqual(first_wrong_step(Question(), paper), 0)
        self.assertEqual([clauses_of(paper), givens(paper)], [((),), ((),)])


class WrongPapersTest(unittest.TestCase):
    def wrong_everywhere(self, paper, index):
        self.assertEqual(first_wrong_step(QUESTION, paper), index)
        for call in [lambda: check_paper(QUESTION, paper), lambda: clauses_of(paper), lambda: givens(paper)]:
            with self.assertRaises(WrongStep) as caught:
                call()
            self.assertEqual(caught.exception.index, index)
            self.assertIsInstance(caught.exception.index, int)

    def test_spoilt_steps(self):
        for index, steps in SPOILT.items():
            for step in steps:
                paper = with_step(PAPER, index, step)
                self.wrong_everywhere(paper, index)
                self.wrong_everywhere(list(paper), index)
                self.wrong_everywhere(paper[:index + 1], index)

    def test_values_that_are_no_steps(self):
        for index in range(len(PAPER)):
            for step in NO_STEPS:
                self.wrong_everywhere(with_step(PAPER, index, step), index)

    def test_the_first_wrong_step_is_told(self):
        for low, high in itertools.combinations(SPOILT, 2):
            paper = with_step(PAPER, low, SPOILT[low][0])
            self.wrong_everywhere(with_step(paper, high, SPOILT[high][0]), low)

    def test_no_papers(self):
        for value in [*PLAIN, (), [], P, "given", QUESTION]:
            self.wrong_everywhere(value, 0)

    def test_true_and_false_are_no_integers(self):
        paper = (("given", (YZ,)), ("given", (ZX,)), ("learn", (ZX,), 1, ()))
        self.assertIsNone(first_wrong_step(QUESTION, paper))
        for index, step in [(0, ("given", (most("y", "z", False),))), (1, ("given", (most("z", "x", False),))),
                            (2, ("learn", (most("z", "x", False),), 1, ())), (2, ("learn", (ZX,), True, ()))]:
            self.assertEqual(with_step(paper, index, step), paper)
            self.wrong_everywhere(with_step(paper, index, step), index)

    def test_given_clauses_that_are_not_in_the_question(self):
        for clause in [(), (P,), (XY,), (XY, P, Q), (most("y", "z", 1),), (no("p"), P)]:
            paper = with_step(PAPER, 5, ("given", clause))
            self.assertEqual(first_wrong_step(QUESTION, paper), 5)
            with self.assertRaises(WrongStep) as caught:
                check_paper(QUESTION, paper)
            self.assertEqual(caught.exception.index, 5)
            self.assertEqual(clauses_of(paper), with_step(CLAUSES, 5, clause))
            self.assertIn(clause, givens(paper))
            self.assertIsNone(first_wrong_step(QUESTION & Question(clause), paper))
            self.assertEqual(check_paper(QUESTION & Question(clause), list(paper)), ())

    def test_a_given_clause_of_another_question(self):
        self.assertEqual(first_wrong_step(Question(*CLAUSES[1:5]), PAPER), 0)
        self.assertEqual(first_wrong_step(Question(*CLAUSES[:4]), PAPER), 4)

    def test_the_argument_stays(self):
        paper = list(PAPER)
        for call in [lambda: first_wrong_step(QUESTION, paper), lambda: clauses_of(paper), lambda: givens(paper)]:
            call()
            self.assertEqual(tuple(paper), PAPER)


class ResolveTest(unittest.TestCase):
    def test_example(self):
        self.assertEqual(resolve([P, Q], Q, [no("q"), no("r")]), (no("r"), P))

    def test_lists_and_tuples_in_any_order(self):
        first, other = [Q, XY, P, XY], [yes("a"), no("p"), Q, ZX]
        for left in itertools.permutations(first):
            for right in itertools.permutations(other):
                for one, two in [(list(left), right), (left, list(right))]:
                    self.assertEqual(resolve(one, P, two), (XY, ZX, yes("a"), Q))

    def test_bounds(self):
        self.assertEqual(resolve([XY, P], XY, [YX, Q]), (P, Q))
        self.assertEqual(resolve([YX], YX, [XY]), ())
        with self.assertRaises(InvalidPivot):
            resolve([XY], XY, [most("y", "x", 1)])

    def test_the_pivot_stays_where_the_other_clause_has_it(self):
        self.assertEqual(resolve([P], P, [no("p"), P]), (P,))
        self.assertEqual(resolve([P, Q], P, [P, no("p")]), (P, Q))

    def test_a_literal_and_its_complement(self):
        self.assertEqual(resolve([P, no("p")], P, [no("p")]), (no("p"),))
        self.assertEqual(resolve([P, no("p")], no("p"), [P, Q]), (P, Q))
        self.assertEqual(resolve([P, no("p")], P, [P, no("p")]), (no("p"), P))
        self.assertEqual(resolve([P, Q], P, [no("p"), no("q")]), (no("q"), Q))

    def test_no_pivots(self):
        for first, pivot, other in [([P], Q, [no("q")]), ([P], P, [no("q")]), ([P], P, [P]), ([P], no("p"), [no("p")]),
                                    ([], P, [no("p")]), ([P], P, []), ([no("p")], P, [P])]:
            with self.assertRaises(InvalidPivot) as caught:
                resolve(first, pivot, other)
            self.assertIs(caught.exception.pivot, pivot)
        one = most("x", "y", 1)
        for pivot in [*NO_LITERALS, list(P), ("most", "x", "y", True), ("most", "x", "y", 1.0)]:
            with self.assertRaises(InvalidPivot) as caught:
                resolve([P, one], pivot, [no("p"), complement(one)])
            self.assertIs(caught.exception.pivot, pivot)

    def test_order_of_the_errors(self):
        for value in PLAIN:
            for call in [lambda: resolve(value, None, [None]), lambda: resolve([P], None, value)]:
                with self.assertRaises(InvalidClause) as caught:
                    call()
                self.assertIs(caught.exception.value, value)
        for value in NO_LITERALS:
            for call in [lambda: resolve([P, value, 3], None, None), lambda: resolve([P], None, [Q, value, 3])]:
                with self.assertRaises(InvalidLiteral) as caught:
                    call()
                self.assertIs(caught.exception.value, value)

    def test_the_arguments_stay(self):
        first, other = [Q, P], [no("p")]
        resolve(first, P, other)
        self.assertEqual([first, other], [[Q, P], [no("p")]])


class MeaningTest(unittest.TestCase):
    def test_outcomes_hold_where_the_question_is_fulfilled(self):
        chance = random.Random(22)
        checked = 0
        for _ in range(120):
            question, paper = some_paper(chance)
            self.assertIsNone(first_wrong_step(question, paper))
            clauses = clauses_of(paper)
            for names in [(), ("p",), ("q",), ("p", "q")]:
                for integers in itertools.product(range(-1, 3), repeat=3):
                    values = (names, tuple(zip("xyz", integers)))
                    if question(values):
                        checked += len(clauses)
                        self.assertTrue(all(clause_holds(clause, values) for clause in clauses))
        self.assertGreater(checked, 1000)

    def test_resolving_keeps_what_holds(self):
        literals = [P, no("p"), XY, YX, most("x", "y", 1), most("y", "x", -2)]
        clauses = [clause for many in (1, 2) for clause in itertools.combinations(literals, many)]
        cases = [(names, (("x", 0), ("y", y))) for names in [(), ("p",)] for y in range(-2, 4)]
        for first, other in itertools.product(clauses, repeat=2):
            for pivot in first:
                if complement(pivot) in other:
                    result = resolve(first, pivot, other)
                    for values in cases:
                        if clause_holds(first, values) and clause_holds(other, values):
                            self.assertTrue(clause_holds(result, values))

    def test_the_empty_outcome_shows_that_there_is_no_answer(self):
        self.assertEqual(check_paper(QUESTION, PAPER), ())
        for names in [(), ("p",), ("q",), ("p", "q")]:
            for integers in itertools.product(range(-2, 3), repeat=3):
                self.assertIs(QUESTION((names, tuple(zip("xyz", integers)))), False)


if __name__ == "__main__":
    unittest.main()

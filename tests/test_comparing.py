"""Point 58: whether two questions say the same."""

import random
import unittest

from ringclause.comparing import Apart, Same, compare
from ringclause.literals import atoms_of, complement
from ringclause.questions import Question
from ringclause.solving import solve
from tests.cases import ProofCase
from tests.samples import HUGE, most, no, yes
from tests.slow import slow_standings
from tests.small import some_clause, some_questions

P, Q, R, S = yes("p"), yes("q"), yes("r"), yes("s")
NP, NQ, NR, NS = no("p"), no("q"), no("r"), no("s")
XY, YX = most("x", "y", -1), most("y", "x", 0)
SQUARE = Question([P, Q], [P, NQ], [NP, Q], [NP, NQ])


def slow_apart(first, second):
    """The first standing of the joint atoms that fulfils one question only, sorted by atoms, with its least values."""
    joint = list(atoms_of([*first.atoms, *second.atoms]))
    for chosen, values in slow_standings(Question(), joint):
        if first(values) != second(values):
            return chosen, values, 1 if first(values) else 2
    return None


class CompareCase(ProofCase):
    def check(self, first, second):
        """The result is what point 58 says; its word."""
        before = first.clauses, second.clauses
        found = compare(first, second)
        self.assertEqual((first.clauses, second.clauses), before)
        self.check_frozen_object(found)
        expected = slow_apart(first, second)
        if expected is None:
            self.assertIsInstance(found, Same)
            self.check_papers(found.forward, first, second)
            self.check_papers(found.backward, second, first)
            self.assertEqual(found.word(), "same")
        else:
            self.assertIsInstance(found, Apart)
            self.assertEqual((found.standing, found.answer, found.side), expected)
            self.assertEqual(found.word(), "apart")
        return found

    def check_papers(self, rows, question, other):
        """The rows have the clauses of the other question in order, each with a paper of the question."""
        self.assertEqual([clause for clause, _ in rows], list(other.clauses))
        for clause, paper in rows:
            self.assertTrue(set(self.outcome_of(question, paper)) <= set(clause))

    def same(self, first, second):
        self.assertEqual(self.check(first, second).word(), "same")
        self.assertEqual(self.check(second, first).word(), "same")

    def apart(self, first, second, standing, side):
        found = self.check(first, second)
        self.assertEqual([found.standing, found.side], [standing, side])
        turned = self.check(second, first)
        self.assertEqual([turned.standing, turned.side, turned.answer], [standing, 3 - side, found.answer])


class SameTest(CompareCase):
    def test_different_clauses(self):
        self.same(Question([P, Q], [P, NQ]), Question([P]))
        self.same(Question([P], [NP, Q]), Question([P], [Q]))
        self.same(Question([P, Q], [P, NQ, R], [P, NQ, NR]), Question([P], [P, S, NR]))
        self.same(Question([most("x", "y", 0)], [most("y", "z", -2)]),
                  Question([most("x", "y", 0)], [most("y", "z", -2)], [most("x", "z", -2)]))
        self.same(Question([most("x", "y", 0), most("x", "y", 3)]), Question([most("x", "y", 3)]))
        self.same(Question([most("x", "y", 4), P], [most("x", "y", 2), NP], [P, Q], [Q, NP]),
                  Question([most("x", "y", 4)], [most("x", "y", 2), NP], [Q]))

    def test_equal_questions(self):
        for question in [Question(), Question([]), Question([P]), SQUARE, Question([XY, P], [YX], [NP, Q])]:
            self.same(question, question)
            self.same(question, Question(*question.clauses))
        found = compare(Question(), Question())
        self.assertEqual([found.forward, found.backward], [(), ()])

    def test_clauses_that_are_always_fulfilled(self):
        self.same(Question(), Question([P, NP]))
        self.same(Question(), Question([XY, YX], [most("a", "b", 0), most("b", "a", 0)], [Q, NQ, P]))
        self.same(Question([P]), Question([P], [Q, NQ, R], [S, NS]))

    def test_no_answer(self):
        for first in [Question([]), Question([P], [NP]), SQUARE, Question([XY], [YX])]:
            for second in [Question([]), Question([R], [NR]), Question([], [S]), Question([XY], [YX], [Q])]:
                self.same(first, second)

    def test_an_empty_clause_is_told_by_the_empty_clause(self):
        found = compare(SQUARE, Question([]))
        self.assertEqual([self.outcome_of(SQUARE, paper) for _, paper in found.forward], [()])
        self.assertEqual([clause for clause, _ in found.backward], list(SQUARE.clauses))

    def test_a_hundred_digits(self):
        self.same(Question([most("x", "y", HUGE)], [most("y", "z", -HUGE)]),
                  Question([most("x", "y", HUGE)], [most("y", "z", -HUGE)], [most("x", "z", 0)]))


class ApartTest(CompareCase):
    def test_the_first_standing(self):
        self.apart(Question([P]), Question([Q]), (P, NQ), 1)
        self.apart(Question([NP]), Question([NQ]), (P, NQ), 2)
        self.apart(Question([P, Q]), Question([P], [Q]), (P, NQ), 1)
        self.apart(Question([P]), Question([P], [Q], [R]), (P, Q, NR), 1)
        self.apart(Question([NQ], [NP, R]), Question([NP, NQ]), (P, NQ, NR), 2)

    def test_one_is_empty(self):
        self.apart(Question(), Question([P]), (NP,), 1)
        self.apart(Question(), Question([]), (), 1)
        self.apart(Question([P, Q]), Question(), (NP, NQ), 2)
        self.apart(Question(), Question([XY]), (YX,), 1)

    def test_one_has_no_answer(self):
        self.apart(SQUARE, Question([P]), (P, Q), 2)
        self.apart(SQUARE, Question(), (P, Q), 2)
        self.apart(Question([XY], [YX]), Question([NP]), (XY, NP), 2)

    def test_names_that_the_other_one_does_not_have(self):
        self.apart(Question([P]), Question([P], [S, XY]), (YX, P, NS), 1)
        found = compare(Question([P]), Question([XY], [P]))
        self.assertEqual(found.answer, (("p",), (("x", 0), ("y", 0))))

    def test_standings_that_no_values_fulfil_are_left_out(self):
        # That x is before z and not before y, though y is before z, is told by none; the first would be apart else.
        first = Question([most("x", "y", 0)], [most("y", "z", 0)])
        second = first & Question([most("x", "z", -1)])
        self.apart(first, second, (most("x", "y", 0), most("z", "x", 0), most("y", "z", 0)), 1)
        self.same(first, first & Question([most("x", "z", 0)]))

    def test_the_answer_has_the_least_values(self):
        first = Question([most("x", "y", -3)], [most("z", "y", 7)])
        found = compare(first, first & Question([P, most("z", "x", 9)]))
        self.assertEqual(found.answer, ((), (("x", 0), ("y", 3), ("z", 10))))
        self.assertEqual([found.side, found.standing],
                         [1, (most("x", "y", -3), most("x", "z", -10), most("z", "y", 7), NP)])

    def test_the_first_of_several_clauses_and_both_sides(self):
        # Each side has standings of its own; the first one is not that of the first clause.
        second = Question([P, R], [Q, S])
        self.apart(Question([P, Q], [R, S]), second, (P, Q, NR, NS), 2)
        self.apart(Question([P, Q], [P, S]), second, (P, NQ, R, NS), 1)

    def test_results_may_be_made(self):
        self.assertEqual(vars(Same((1,), (2,))), {"forward": (1,), "backward": (2,)})
        self.assertEqual(vars(Apart((P,), ((), ()), 2)), {"standing": (P,), "answer": ((), ()), "side": 2})
        self.assertEqual([Same((), ()).word(), Apart((), ((), ()), 1).word()], ["same", "apart"])


class ChanceTest(CompareCase):
    def variant(self, chance, question):
        """A question that says the same, or nearly so."""
        if not question.atoms:
            return Question([P, NP])
        clauses = list(question.clauses)
        for _ in range(chance.randrange(1, 4)):
            clause = chance.choice([chance.choice(clauses), some_clause(chance, list(question.atoms))])
            paper = solve(question, *[complement(literal) for literal in clause])
            if paper.word() == "no" or chance.random() < 0.2:
                clauses.append(clause)
        if chance.random() < 0.5:
            clause = chance.choice(clauses)
            atom = chance.choice(question.atoms)
            clauses.remove(clause)
            clauses += [[*clause, atom], [*clause, complement(atom)]]
        if chance.random() < 0.3:
            clauses.pop(chance.randrange(len(clauses)))
        return Question(*clauses)

    def test_against_all_standings(self):
        chance = random.Random(58)
        words = []
        for _ in range(250):
            first = some_questions(chance)
            second = self.variant(chance, first) if chance.random() < 0.7 else some_questions(chance)
            words.append(self.check(first, second).word())
            self.assertEqual(self.check(second, first).word(), words[-1])
        self.assertGreater(min(words.count("same"), words.count("apart")), 60)


if __name__ == "__main__":
    unittest.main()

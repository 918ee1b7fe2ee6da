"""Points 40 to 44: solving, first standings, and verdicts of searches."""

import itertools
import random
import unittest

from ringclause.errors import InvalidLimit, InvalidLiteral
from ringclause.literals import atom_of, clause_holds, complement
from ringclause.machine import Machine
from ringclause.papers import check_paper, givens
from ringclause.papertexts import write_paper
from ringclause.questions import Question
from ringclause.solving import solve
from ringclause.strategy import planned
from ringclause.texts import write_values
from ringclause.trying import reach, tries
from ringclause.verdicts import No, Yes
from tests.samples import HUGE, NO_LITERALS, Stubborn, most, no, yes
from tests.slow import slow_verdict
from tests.small import dense_question, knotty_question, some_question
from tests.test_editing import steps_needed

P, Q, R, S = yes("p"), yes("q"), yes("r"), yes("s")
NP, NQ, NR, NS = no("p"), no("q"), no("r"), no("s")
XY = most("x", "y", -1)
SQUARE = Question([P, Q], [P, NQ], [NP, Q], [NP, NQ])


def some_case(chance):
    """A question, suppositions and an order, with duplicates, opposed literals and literals of new atoms."""
    question = chance.choice([some_question, dense_question, knotty_question])(chance)
    pool = [literal for atom in [*question.atoms, yes("z"), most("w", "x", 1)] for literal in (atom, complement(atom))]
    suppositions = [chance.choice(pool) for _ in range(chance.choice([0, 0, 1, 2, 3]))]
    return question, suppositions, [chance.choice(pool) for _ in range(chance.choice([0, 0, 1, 3, 6]))]


class SolveCase(unittest.TestCase):
    def check_no(self, verdict, whole):
        """A No is right for the whole question and tells what point 43 says."""
        question, paper, core = verdict.question, verdict.paper, verdict.core
        self.assertEqual(check_paper(whole, paper), ())
        self.assertEqual(steps_needed(paper, len(paper) - 1), list(range(len(paper))))
        used = [clause for clause in givens(paper) if clause not in question]
        self.assertEqual(core, tuple(literal for literal in verdict.suppositions if (literal,) in used))
        self.assertIsNone(slow_verdict(question & Question.units(*core)))
        lifted = verdict.lifted()
        outcome = check_paper(question, lifted)
        self.assertTrue(set(outcome) <= {complement(literal) for literal in core})

    def check_log(self, verdict, whole, order, **more):
        """The log is what the strategy plans on a new machine; the machine after it."""
        machine = Machine(whole, extra=order, **more)
        for deed in verdict.log:
            self.assertEqual(planned(machine, *order), deed)
            machine.do(deed)
        self.assertIsNone(planned(machine, *order))
        self.assertEqual(machine.state, verdict.word())
        return machine


class AnswerTest(SolveCase):
    def test_example(self):
        verdict = solve(Question.read("~p\np | x-y<=0"), ("most", "y", "x", 4))
        self.assertEqual([verdict.answer, verdict.standing, len(verdict.log)], [
            ((), (("x", 0), ("y", 0))), (("most", "y", "x", 4), ("most", "x", "y", 0), ("no", "p")), 4])

    def test_no_clauses(self):
        verdict = solve(Question())
        self.assertIsInstance(verdict, Yes)
        self.assertEqual([verdict.answer, verdict.standing, verdict.log], [((), ()), (), (("yes", ((), ())),)])

    def test_the_empty_clause(self):
        verdict = solve(Question([], [P]), Q)
        self.assertIsInstance(verdict, No)
        self.assertEqual([verdict.paper, verdict.core, verdict.log], [(("given", ()),), (), (("no", ("clause", 0)),)])

    def test_first_standings(self):
        question = Question([P, Q], [NP, NQ], [XY, NP])
        literals = [P, NP, Q, NQ, XY, complement(XY)]
        for order in [order for many in range(4) for order in itertools.permutations(literals, many)]:
            standing, values = slow_verdict(question, order)
            verdict = solve(question, order=order)
            self.assertEqual([verdict.standing, verdict.answer], [standing, values])

    def test_orders(self):
        question = Question([P, Q, R])
        for order, standing in [
            ((), (P, Q, R)), ((NP,), (NP, Q, R)), ([NR, NQ, NP], (P, NQ, NR)), ([NQ, Q, NQ, NR], (P, NQ, NR)),
            ([NP, NP, NQ, R, NR], (NP, NQ, R)), ([NS], (P, Q, R, NS)), ([S, NS, NP, NQ], (NP, NQ, R, S)),
            ([most("y", "x", 0)], (most("y", "x", 0), P, Q, R)),
        ]:
            verdict = solve(question, order=order)
            self.assertEqual(verdict.standing, standing)
            self.assertIsInstance(verdict.standing, tuple)

    def test_against_a_slow_search(self):
        chance = random.Random(41)
        words = []
        for _ in range(400):
            question, suppositions, order = some_case(chance)
            clauses = question.clauses
            verdict = solve(question, *suppositions, order=order)
            whole = question & Question.units(*suppositions)
            expected = slow_verdict(whole, [*order])
            words.append(verdict.word())
            self.assertEqual(verdict.suppositions, tuple(dict.fromkeys(suppositions)))
            self.assertIs(verdict.question, question)
            self.assertEqual(question.clauses, clauses)
            self.check_log(verdict, whole, order)
            if expected is None:
                self.assertIsInstance(verdict, No)
                self.check_no(verdict, whole)
            else:
                self.assertIsInstance(verdict, Yes)
                self.assertEqual((verdict.standing, verdict.answer), expected)
                self.assertTrue(whole(verdict.answer))
                self.assertEqual(verdict.log[-1], ("yes", verdict.answer))
                atoms = sorted({*whole.atoms, *[atom_of(literal) for literal in order]})
                self.assertEqual([atom_of(literal) for literal in verdict.standing], atoms)
        self.assertGreater(min(words.count("yes"), words.count("no")), 100)

    def test_against_trying(self):
        chance = random.Random(13)
        for _ in range(60):
            question = some_question(chance, 2, 3, 9)
            found = next(tries(question, min(reach(question), 8)), None)
            verdict = solve(question)
            if found is not None:
                self.assertEqual(verdict.word(), "yes")
                self.assertTrue(question(verdict.answer))
            elif reach(question) <= 8:
                self.assertEqual(verdict.word(), "no")

    def test_other_paces_and_spreads(self):
        chance = random.Random(42)
        restarts = 0
        for _ in range(120):
            question, suppositions, order = some_case(chance)
            whole = question & Question.units(*suppositions)
            usual = solve(question, *suppositions, order=order)
            for pace, spread in [(1, 0), (1, 1), (2, 5), (HUGE, 0)]:
                verdict = solve(question, *suppositions, order=order, pace=pace, spread=spread)
                self.check_log(verdict, whole, order, pace=pace, spread=spread)
                restarts += ("restart",) in verdict.log
                self.assertEqual(verdict.word(), usual.word())
                if verdict.word() == "yes":
                    self.assertEqual([verdict.standing, verdict.answer], [usual.standing, usual.answer])
                else:
                    self.check_no(verdict, whole)
        self.assertGreater(restarts, 10)

    def test_the_usual_pace_and_spread(self):
        question = Question(*[[yes(f"p{i}{j}") for j in range(3)] for i in range(4)],
                            *[[no(f"p{i}{k}"), no(f"p{j}{k}")] for i in range(4) for j in range(i) for k in range(3)])
        verdict = solve(question)
        self.assertEqual(verdict.log, solve(question, pace=4, spread=2).log)
        self.assertNotEqual(verdict.log, solve(question, pace=1, spread=2).log)
        self.assertIn(("restart",), verdict.log)
        self.check_log(verdict, question, [], pace=4, spread=2)
        self.assertEqual(check_paper(question, verdict.paper), ())


class SuppositionsTest(SolveCase):
    def test_duplicates(self):
        verdict = solve(Question([P, Q]), NQ, NP, NQ, NP, NQ)
        self.assertEqual(verdict.suppositions, (NQ, NP))
        self.assertEqual(verdict.core, (NQ, NP))
        self.assertEqual(solve(Question([P, Q]), NP, NP).suppositions, (NP,))

    def test_a_literal_and_its_complement(self):
        for literal in [P, XY]:
            for question in [Question(), Question([Q])]:
                verdict = solve(question, Q, complement(literal), literal)
                self.assertEqual([verdict.word(), verdict.core], ["no", (complement(literal), literal)])
                outcome = check_paper(question, verdict.lifted())
                self.assertEqual(outcome, tuple(sorted([literal, complement(literal)])))

    def test_new_names(self):
        verdict = solve(Question([P]), NS, most("a", "b", -2), XY)
        self.assertEqual(verdict.standing, (most("a", "b", -2), XY, P, NS))
        self.assertEqual(verdict.answer, (("p",), (("a", 0), ("b", 2), ("x", 0), ("y", 1))))

    def test_suppositions_that_are_clauses(self):
        question = Question([P], [NP, Q], [NQ, NR])
        verdict = solve(question, P, R)
        self.assertEqual([verdict.word(), verdict.core], ["no", (R,)])
        self.assertEqual(verdict.lines()[0], f"clauses 3, suppositions 2, deeds {len(verdict.log)}")
        self.assertEqual(check_paper(question, verdict.lifted()), (NR,))
        self.assertIn(("given", (P,)), verdict.lifted())
        self.assertEqual(solve(question, P, NR).word(), "yes")

    def test_a_core_in_order(self):
        question = Question([NP, NQ, NR])
        for order in itertools.permutations([P, Q, R, S]):
            verdict = solve(question, *order)
            self.assertEqual(verdict.core, tuple(literal for literal in order if literal != S))
        self.assertEqual(solve(SQUARE, R, S).core, ())

    def test_cores_have_no_answer_alone(self):
        chance = random.Random(47)
        cores = 0
        for _ in range(150):
            question, suppositions, order = some_case(chance)
            verdict = solve(question, *suppositions, order=order)
            if verdict.word() == "no":
                again = solve(question, *verdict.core)
                self.assertEqual(again.word(), "no")
                outcome = check_paper(question, verdict.lifted())
                listed = question & Question([*outcome, *[complement(literal) for literal in outcome]])
                answers = itertools.islice(tries(listed, 2), 50)
                self.assertTrue(all(clause_holds(outcome, values) for values in answers))
                cores += bool(verdict.core)
        self.assertGreater(cores, 15)


class LinesTest(SolveCase):
    def test_yes(self):
        verdict = solve(Question([P, Q], [XY]), NP)
        self.assertEqual(verdict.lines(), (f"clauses 2, suppositions 1, deeds {len(verdict.log)}", "yes q x=0 y=1"))
        self.assertEqual(verdict.lines()[1], "yes " + write_values(verdict.answer))
        self.assertEqual(solve(Question()).lines(), ("clauses 0, suppositions 0, deeds 1", "yes"))

    def test_no(self):
        verdict = solve(Question([NP, XY], [NP, complement(XY)]), Q, P)
        self.assertEqual(verdict.lines()[:2], (f"clauses 2, suppositions 2, deeds {len(verdict.log)}", "core p"))
        self.assertEqual("\n".join(verdict.lines()[2:]), write_paper(verdict.paper))
        self.assertEqual(solve(SQUARE).lines()[1], "core")
        self.assertEqual(solve(Question(), XY, complement(XY)).lines()[1], "core x-y<=-1 , y-x<=0")


class ErrorTest(unittest.TestCase):
    def refused(self, error, value, *args, **more):
        with self.assertRaises(error) as caught:
            solve(*args, **more)
        self.assertIs(caught.exception.value, value)

    def test_suppositions_come_first(self):
        for value in NO_LITERALS:
            self.refused(InvalidLiteral, value, SQUARE, P, value, None)
            self.refused(InvalidLiteral, value, SQUARE, value, order=[None], pace=0, spread=-1)

    def test_then_the_order(self):
        for value in NO_LITERALS:
            self.refused(InvalidLiteral, value, SQUARE, P, order=[NQ, value, 7])
            self.refused(InvalidLiteral, value, SQUARE, order=(value,), pace=0, spread=-1)

    def test_then_pace_and_spread(self):
        for value in [0, -1, True, False, None, "4", 1.0, Stubborn()]:
            self.refused(InvalidLimit, value, SQUARE, P, order=[Q], pace=value, spread=-1)
        for value in [-1, True, False, None, "2", 0.0, Stubborn()]:
            self.refused(InvalidLimit, value, SQUARE, P, order=[Q], pace=1, spread=value)
            self.refused(InvalidLimit, value, Question([]), spread=value)


if __name__ == "__main__":
    unittest.main()

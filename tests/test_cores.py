"""Point 47: least cores."""

import itertools
import random
import unittest

from ringclause.cores import Core, least_core
from ringclause.errors import HasAnswer, InvalidLiteral, InvalidWeights
from ringclause.hitting import least_hitting
from ringclause.literals import complement, holds
from ringclause.papers import check_paper
from ringclause.questions import Question
from ringclause.solving import solve
from tests.samples import HUGE, NO_LITERALS, Stubborn, most, no, yes
from tests.slow import slow_verdict
from tests.small import dense_question, some_atoms, some_question
from tests.test_editing import steps_needed

P, Q, R, S = yes("p"), yes("q"), yes("r"), yes("s")
NP, NQ, NR, NS = no("p"), no("q"), no("r"), no("s")
XY, YZ, ZX = most("x", "y", -1), most("y", "z", 0), most("z", "x", 0)


def slow_core(question, suppositions, weights):
    """The best of all tuples of positions under which the question has no answer."""
    places = range(len(suppositions))
    tuples = [chosen for many in range(len(suppositions) + 1) for chosen in itertools.combinations(places, many)]
    tuples.sort(key=lambda chosen: (sum(weights[at] for at in chosen), len(chosen), chosen))
    for chosen in tuples:
        if slow_verdict(question & Question.units(*[suppositions[at] for at in chosen])) is None:
            return chosen
    return None


def some_case(chance):
    """A question and suppositions that have some cores, or none."""
    question = chance.choice([some_question, dense_question])(chance)
    pool = [literal for atom in [*question.atoms, yes("z"), most("w", "x", 1)] for literal in (atom, complement(atom))]
    return question, [chance.choice(pool) for _ in range(chance.randrange(7))]


def barred_case(chance):
    """A question that bars its suppositions from holding together, and has an answer by itself."""
    literals = [chance.choice([atom, complement(atom)]) for atom in some_atoms(chance, 4, 2)]
    question = Question(*[chance.sample(literals, chance.randrange(2, 5)) for _ in range(chance.randrange(1, 4))])
    suppositions = [complement(literal) for literal in literals] + [chance.choice(literals)]
    return question, chance.sample(suppositions, len(suppositions) - chance.randrange(2))


class CoreCase(unittest.TestCase):
    def check(self, core, question, suppositions, weights):
        """The core is what point 47 says, apart from whether there is a better one."""
        self.assertIsInstance(core, Core)
        self.assertEqual(core.weight, sum(weights[at] for at in core.positions))
        whole = question & Question.units(*[suppositions[at] for at in core.positions])
        self.assertEqual(check_paper(whole, core.paper), ())
        self.assertEqual(steps_needed(core.paper, len(core.paper) - 1), list(range(len(core.paper))))
        named = question & Question([*suppositions])
        for left, values in core.barriers:
            self.assertTrue(question(values))
            self.assertEqual([name for name, _ in values[1]], list(named.moments))
            self.assertTrue(set(values[0]) <= set(named.truths))
            missed = [at for at, literal in enumerate(suppositions) if not holds(literal, values)]
            self.assertEqual(left, tuple(missed))
            self.assertTrue(set(left) & set(core.positions))
        self.assertIsInstance(core.barriers, tuple)
        self.assertEqual(least_hitting([left for left, _ in core.barriers], weights), core.positions)


class ExamplesTest(CoreCase):
    def same(self, positions, question, suppositions, weights=None):
        core = least_core(question, suppositions, weights)
        self.assertEqual(core.positions, positions)
        self.check(core, question, suppositions, weights or [1] * len(suppositions))

    def test_fewest_positions(self):
        question = Question([NP, NQ, NR], [NS, NR])
        self.same((2, 3), question, [P, Q, R, S])
        self.same((0, 1), question, (S, R, Q, P))
        self.same((0, 1, 2), question, [P, Q, R, S], [1, 1, 1, 3])
        self.same((2, 3), question, [P, Q, R, S], (1, 1, 1, 2))
        self.same((0, 1, 2), question, [P, Q, R])

    def test_the_least_tuple_of_equal_ones(self):
        question = Question([NP, NQ], [NR, NS], [NQ, NR])
        self.same((0, 1), question, [P, Q, R, S])
        self.same((0, 2), question, [P, R, Q, S])
        self.same((1, 2), question, [P, Q, R, S], [2, 1, 1, 2])

    def test_equal_suppositions_at_two_positions(self):
        question = Question([NP, NQ])
        self.same((0, 1), question, [P, Q, P, Q])
        self.same((1, 2), question, [P, Q, P, Q], [2, 1, 1, 2])
        self.same((0, 3), question, [P, Q, P, Q], [1, 2, 2, 1])
        self.same((1,), Question([NP]), [Q, P, P])
        self.same((2,), Question([NP]), [Q, P, P], [1, 2, 1])

    def test_opposed_suppositions(self):
        self.same((0, 1), Question(), [P, NP])
        self.same((1, 2), Question([R]), [Q, P, NP])
        self.same((0, 2), Question(), [XY, Q, complement(XY)])

    def test_no_answer_by_itself(self):
        for question in [Question([]), Question([P], [NP])]:
            for suppositions in [[], [Q], [P, NP, Q]]:
                core = least_core(question, suppositions)
                self.assertEqual([core.positions, core.weight, core.barriers], [(), 0, ()])
                self.check(core, question, suppositions, [1] * len(suppositions))

    def test_bounds(self):
        self.same((0, 1, 2), Question(), [XY, YZ, ZX])
        self.same((0, 3), Question([most("y", "x", 0), NP]), [XY, YZ, ZX, P])
        self.same((1, 2), Question([NP, YZ]), [Q, XY, most("y", "x", 0), P, ZX])
        self.same((0, 3), Question([NP, YZ]), [XY, ZX, most("x", "y", 0), most("y", "x", -1)])

    def test_large_weights(self):
        question = Question([NP, NQ], [NR])
        self.same((0, 1), question, [P, Q, R], [HUGE, HUGE, 2 * HUGE + 1])
        self.same((2,), question, [P, Q, R], [HUGE, HUGE, 2 * HUGE])

    def test_weights_of_each_kind(self):
        question = Question([NP, NQ], [NR])
        for weights in [None, [1, 1, 1], (1, 1, 1)]:
            core = least_core(question, (P, Q, R), weights)
            self.assertEqual([core.positions, core.weight], [(2,), 1])
        core = least_core(question, [P, Q, R], (2, 3, 6))
        self.assertEqual([core.positions, core.weight], [(0, 1), 5])

    def test_arguments_are_not_changed(self):
        suppositions, weights = [P, Q, P], [3, 2, 1]
        least_core(Question([NP, NQ]), suppositions, weights)
        self.assertEqual([suppositions, weights], [[P, Q, P], [3, 2, 1]])

    def test_cores_may_be_made(self):
        core = Core((0,), 2, ("paper",), ("barriers",))
        self.assertEqual([core.positions, core.weight, core.paper, core.barriers], [(0,), 2, ("paper",), ("barriers",)])


class ChanceTest(CoreCase):
    def test_against_all_tuples_of_positions(self):
        chance = random.Random(47)
        sizes = []
        for _ in range(250):
            question, suppositions = chance.choice([some_case, barred_case])(chance)
            weights = chance.choice([None, [chance.randint(1, 3) for _ in suppositions]])
            counted = weights or [1] * len(suppositions)
            expected = slow_core(question, suppositions, counted)
            if expected is None:
                with self.assertRaises(HasAnswer) as caught:
                    least_core(question, suppositions, weights)
                self.assertEqual(caught.exception.answer, solve(question, *suppositions).answer)
            else:
                core = least_core(question, suppositions, weights)
                self.assertEqual(core.positions, expected)
                self.check(core, question, suppositions, counted)
                sizes.append(len(expected))
        for size in range(4):
            self.assertGreater(sizes.count(size), 2)

    def test_twelve_suppositions(self):
        # Of twelve truths every third makes a moment later than the one before; the ring back allows only so many.
        names = "abcdefghijkl"
        moments = "stuvwxyz"
        clauses = [[no(name), most(moments[at % 7], moments[at % 7 + 1], -1)] for at, name in enumerate(names)]
        question = Question(*clauses, [most("z", "s", 6)])
        suppositions = [yes(name) for name in names]
        core = least_core(question, suppositions)
        self.assertEqual(core.positions, (0, 1, 2, 3, 4, 5, 6))
        self.check(core, question, suppositions, [1] * 12)
        weights = [1 + at % 5 for at in range(12)][::-1]
        core = least_core(question, suppositions, weights)
        best = tuple(sorted(min((weights[at], at) for at in range(12) if at % 7 == step)[1] for step in range(7)))
        self.assertEqual(core.positions, best)
        self.check(core, question, suppositions, weights)


class ErrorTest(unittest.TestCase):
    def test_literals_come_first(self):
        for value in NO_LITERALS:
            for weights in [None, [0], ()]:
                with self.assertRaises(InvalidLiteral) as caught:
                    least_core(Question([P]), [Q, value, None], weights)
                self.assertIs(caught.exception.value, value)

    def test_then_weights(self):
        # Also where the question has an answer under the suppositions.
        for question in [Question([NP, NQ]), Question([P])]:
            for weights in [[], [1], [1, 1, 1], (), (1,), [0, 1], [1, 0], [1, -1], [-HUGE, 1], [True, 1], [1, False],
                            [1, None], ["1", 1], [1, 1.0], [1, Stubborn()], (1, (1,)), [[1], 1], {0: 1, 1: 1}, 2, "11",
                            (P, Q), True, False, 0, ""]:
                with self.assertRaises(InvalidWeights):
                    least_core(question, [P, Q], weights)
        with self.assertRaises(InvalidWeights):
            least_core(Question([]), [], [1])

    def test_then_an_answer(self):
        for question, suppositions in [(Question(), []), (Question([P, Q]), [NP]), (Question([XY]), (YZ, NS)),
                                       (Question([P, Q], [R]), [S, most("a", "b", -3), NP, S])]:
            for weights in [None, [2] * len(suppositions)]:
                with self.assertRaises(HasAnswer) as caught:
                    least_core(question, suppositions, weights)
                self.assertEqual(caught.exception.answer, solve(question, *suppositions).answer)

    def test_the_answer_is_that_of_solve(self):
        question = Question([P, Q], [NP, NR])
        with self.assertRaises(HasAnswer) as caught:
            least_core(question, [Q])
        self.assertEqual(caught.exception.answer, (("p", "q"), ()))
        with self.assertRaises(HasAnswer) as caught:
            least_core(question, [R, Q])
        self.assertEqual(caught.exception.answer, (("q", "r"), ()))


if __name__ == "__main__":
    unittest.main()

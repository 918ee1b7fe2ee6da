"""Point 56: greatest differences."""

import random
import unittest

from ringclause.errors import UnknownMoment
from ringclause.gaps import Gap, gap_range, greatest_gap
from ringclause.literals import is_bound
from ringclause.questions import Question
from tests.cases import ProofCase
from tests.samples import HUGE, most, no, yes
from tests.slow import slow_chain, slow_standings
from tests.small import loose_question, some_clause, some_atoms

P, Q, R, S = yes("p"), yes("q"), yes("r"), yes("s")
NP, NQ, NR, NS = no("p"), no("q"), no("r"), no("s")
# x is above y by at least 1, or below it or level with it.
ABOVE, BELOW = most("y", "x", -1), most("x", "y", 0)


def slow_gap(question, x, y):
    """The greatest difference over all standings, None if there is no greatest; "no" if there is no answer."""
    gaps = []
    for chosen, _ in slow_standings(question, question.atoms):
        chain = slow_chain([literal for literal in chosen if is_bound(literal)], x, y)
        gaps.append(None if chain is None else sum(bound[3] for bound in chain))
    if not gaps:
        return "no"
    return None if None in gaps else max(gaps)


def moved(values, names, by):
    """The values with some moments moved."""
    return values[0], tuple((name, at + by if name in names else at) for name, at in values[1])


class GapCase(ProofCase):
    def check(self, question, x, y):
        """The gap is what point 56 says, apart from whether it is the greatest where the paper is not right."""
        gap = greatest_gap(question, x, y)
        self.assertIsInstance(gap, Gap)
        self.check_frozen_object(gap)
        self.check_answer(question, gap.answer)
        if gap.greatest is None:
            self.assertIsNone(gap.paper)
            self.assertIsInstance(gap.moving, tuple)
            self.assertEqual(list(gap.moving), sorted(set(gap.moving)))
            self.assertIn(x, gap.moving)
            self.assertNotIn(y, gap.moving)
            self.assertTrue(set(gap.moving) <= set(question.moments))
            for by in [0, 1, 2, 17, HUGE]:
                self.check_answer(question, moved(gap.answer, gap.moving, by))
        else:
            times = dict(gap.answer[1])
            self.assertEqual(times[x] - times[y], gap.greatest)
            self.assertEqual(self.outcome_of(question, gap.paper), (most(x, y, gap.greatest),))
            self.assertIsNone(gap.moving)
        return gap.greatest


class ExamplesTest(GapCase):
    def test_example(self):
        self.assertEqual(gap_range(Question.read("x-y<=3"), "x", "y"), (None, 3))

    def test_one_chain_of_units(self):
        question = Question.units(most("x", "y", 3), most("y", "z", -5), most("x", "z", 4))
        for x, y, gap in [("x", "y", 3), ("x", "z", -2), ("y", "z", -5), ("z", "x", None), ("y", "x", None)]:
            self.assertEqual(self.check(question, x, y), gap)

    def test_both_orders(self):
        question = Question.units(most("x", "y", 7), most("y", "x", -4))
        self.assertEqual([self.check(question, "x", "y"), self.check(question, "y", "x")], [7, -4])
        self.assertEqual([gap_range(question, "x", "y"), gap_range(question, "y", "x")], [(4, 7), (-7, -4)])

    def test_several_clauses_and_branches(self):
        question = Question([most("x", "y", 2), P], [most("x", "y", 9), Q], [NP, NQ], [most("x", "y", 5), NP])
        # Without p 2, with p 5 and 9, with q 2 or 5: the greatest needs p and not q.
        self.assertEqual(self.check(question, "x", "y"), 5)
        question = Question([most("x", "y", 2), P], [most("x", "y", 9)], [most("x", "y", 4), NP, Q], [NQ, R], [NR, NS])
        self.assertEqual(self.check(question, "x", "y"), 9)
        self.assertEqual(self.check(question & Question([S]), "x", "y"), 4)
        self.assertEqual(self.check(question & Question([S], [NP]), "x", "y"), 2)

    def test_branches_of_bounds_alone(self):
        question = Question([most("x", "y", -9), most("x", "y", -4)], [most("y", "x", 20)],
                            [most("x", "z", 1), most("z", "x", 5)], [most("z", "y", -8), most("y", "z", 8)])
        self.assertEqual([self.check(question, "x", "y"), self.check(question, "y", "x")], [-4, 20])
        self.assertEqual(gap_range(question, "x", "y"), (-20, -4))

    def test_negative_gaps(self):
        question = Question([most("x", "y", -3), P], [most("x", "y", -8), NP], [most("y", "x", 10)])
        self.assertEqual(self.check(question, "x", "y"), -3)
        self.assertEqual(gap_range(question, "x", "y"), (-10, -3))

    def test_a_hundred_digits(self):
        half = 5 * 10 ** 99
        for low, high in [(-HUGE, HUGE), (HUGE - 3, HUGE), (-HUGE, 3 - HUGE), (0, half)]:
            question = Question([most("x", "z", high - half), P], [most("z", "y", half)], [most("y", "x", -low)],
                                [NP, most("x", "y", low), Q], [NQ, most("x", "z", 10 - half)])
            # With p and q the gap is at most 10, with p alone it is the least one, else it is the high one.
            greatest = max(high, 10) if low <= 10 else high
            self.assertEqual(self.check(question, "x", "y"), greatest)
            self.assertEqual(self.check(question, "y", "x"), -low)
            self.assertEqual(gap_range(question, "x", "y"), (low, greatest))

    def test_very_many_differences(self):
        # Each of seven steps may be long where a truth holds; of neighbouring truths only one may hold.
        moments, names = "abcdefgh", [f"p{number}" for number in range(7)]
        clauses = []
        for number, name in enumerate(names):
            x, y = moments[number], moments[number + 1]
            clauses += [[most(x, y, 0), yes(name)], [most(x, y, 3 ** number)]]
        question = Question(*clauses)
        self.assertEqual(self.check(question, "a", "h"), sum(3 ** number for number in range(7)))
        rivals = [[no(name), no(other)] for name, other in zip(names, names[1:])]
        self.assertEqual(self.check(question & Question(*rivals), "a", "h"), 3 ** 6 + 3 ** 4 + 3 ** 2 + 1)
        self.assertIsNone(self.check(question & Question(*rivals), "h", "a"))

    def test_no_greatest(self):
        question = Question([most("x", "y", 5), P], [most("z", "y", 2)], [most("y", "x", 3)])
        self.assertIsNone(self.check(question, "x", "y"))
        self.assertEqual(self.check(question, "y", "x"), 3)
        self.assertEqual(gap_range(question, "x", "y"), (-3, None))
        self.assertEqual(gap_range(question, "y", "x"), (None, 3))
        self.assertEqual(gap_range(question, "y", "z"), (-2, None))

    def test_no_greatest_in_one_branch_only(self):
        # With p, and so with q and not with r, x may run away; all other branches hold it.
        question = Question([most("x", "y", 5), P], [most("x", "y", 8), Q], [NP, NR], [NQ, NR], [most("x", "z", 3), NS],
                            [most("z", "y", 1)], [most("x", "y", 99), R, S, P])
        self.assertIsNone(self.check(question, "x", "y"))
        self.assertEqual(self.check(question & Question([R]), "x", "y"), 5)
        self.assertEqual(self.check(question & Question([S]), "x", "y"), 4)

    def test_moments_that_are_carried_on(self):
        # Where x runs away it takes z with it, and w is left behind or not.
        question = Question([most("x", "z", 0)], [most("y", "x", 0)], [most("w", "x", 4)])
        gap = greatest_gap(question, "x", "y")
        self.assertEqual([gap.greatest, gap.paper], [None, None])
        self.assertIn("z", gap.moving)
        self.check(question, "x", "y")

    def test_moments_of_clauses_that_tell_nothing(self):
        question = Question([ABOVE, BELOW], [P])
        self.assertEqual(gap_range(question, "x", "y"), (None, None))
        self.assertIsNone(self.check(question, "x", "y"))
        self.assertIsNone(self.check(question, "y", "x"))

    def test_equal_moments(self):
        question = Question.units(most("x", "y", 0), most("y", "x", 0))
        self.assertEqual(gap_range(question, "x", "y"), (0, 0))

    def test_gaps_may_be_made(self):
        gap = Gap(3, ((), ()), None, ("paper",))
        self.assertEqual([gap.greatest, gap.answer, gap.moving, gap.paper], [3, ((), ()), None, ("paper",)])


class ErrorTest(GapCase):
    def test_unknown_moments(self):
        with_answer = Question([most("x", "y", 3)], [yes("z")])
        without = Question([most("x", "y", -1)], [most("y", "x", 0)])
        for question in [with_answer, without]:
            for call in [greatest_gap, gap_range]:
                for x, y, name in [("x", "z", "z"), ("z", "x", "z"), ("z", "w", "z"), ("w", "z", "w"), ("w", "y", "w")]:
                    with self.assertRaises(UnknownMoment) as caught:
                        call(question, x, y)
                    self.assertEqual(caught.exception.name, name)
        self.raises(UnknownMoment, "x", greatest_gap, Question([]), "x", "y")
        self.raises(UnknownMoment, "p", greatest_gap, Question([P]), "p", "q")

    def test_no_answer(self):
        for question in [Question([ABOVE], [BELOW]), Question([], [ABOVE]), Question([ABOVE, P], [NP], [BELOW])]:
            for call in [greatest_gap, gap_range]:
                self.has_no_answer(question, call, question, "x", "y")
                self.has_no_answer(question, call, question, "y", "x")


class ChanceTest(GapCase):
    def some_case(self, chance):
        atoms = some_atoms(chance, chance.randrange(3), chance.randrange(2, 6), -3, 3)
        if chance.random() < 0.3:
            return loose_question(chance)
        return Question(*[some_clause(chance, atoms, 2) for _ in range(chance.randrange(2, 9))])

    def test_against_all_standings(self):
        chance = random.Random(56)
        gaps = []
        for _ in range(350):
            question = self.some_case(chance)
            if len(question.moments) < 2:
                continue
            clauses = question.clauses
            x, y = chance.sample(question.moments, 2)
            expected = slow_gap(question, x, y)
            if expected == "no":
                self.has_no_answer(question, greatest_gap, question, x, y)
                self.has_no_answer(question, gap_range, question, x, y)
                continue
            gaps.append(expected)
            self.assertEqual(self.check(question, x, y), expected)
            least = slow_gap(question, y, x)
            self.assertEqual(gap_range(question, x, y), (None if least is None else -least, expected))
            self.assertEqual(question.clauses, clauses)
        self.assertGreater(gaps.count(None), 40)
        self.assertGreater(len([gap for gap in gaps if gap is not None and gap < 0]), 10)
        self.assertGreater(len([gap for gap in gaps if gap is not None and gap >= 0]), 25)


if __name__ == "__main__":
    unittest.main()

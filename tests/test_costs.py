"""Point 57: least costs."""

import random
import unittest

from ringclause.costs import Cheapest, cheapest
from ringclause.errors import InvalidLiteral, InvalidWeights
from ringclause.hitting import least_hitting
from ringclause.literals import atoms_of, complement, holds
from ringclause.questions import Question
from ringclause.solving import solve
from tests.cases import ProofCase
from tests.samples import HUGE, NO_LITERALS, Stubborn, most, no, yes
from tests.slow import slow_standings
from tests.small import some_atoms, some_clause, some_questions

P, Q, R, S = yes("p"), yes("q"), yes("r"), yes("s")
NP, NQ, NR, NS = no("p"), no("q"), no("r"), no("s")
XY, YX = most("x", "y", -1), most("y", "x", 0)
NO_WEIGHTS = [0, -1, -HUGE, True, False, None, "1", 1.0, (1,), [1], Stubborn()]


def slow_held(question, weights):
    """The best held literals over all standings of the atoms of the question and the weighted literals."""
    literals = sorted(weights)
    held = []
    for chosen, _ in slow_standings(question, list(atoms_of([*question.atoms, *literals]))):
        places = tuple(place for place, literal in enumerate(literals) if literal in chosen)
        held.append((sum(weights[literals[place]] for place in places), len(places), places))
    return tuple(literals[place] for place in min(held)[2]) if held else None


def can_be_key(value):
    try:
        return {value: True}[value]
    except TypeError:
        return False


class CostCase(ProofCase):
    def check(self, question, weights):
        """The result is what point 57 says, and the papers show that it is the best; the literals held."""
        before = list(weights.items())
        found = cheapest(question, weights)
        self.assertEqual(list(weights.items()), before)
        self.assertIsInstance(found, Cheapest)
        self.check_frozen_object(found)
        literals = sorted(weights)
        self.assertEqual(found.held, tuple(literal for literal in literals if holds(literal, found.answer)))
        self.assertEqual(found.cost, sum(weights[literal] for literal in found.held))
        others = [complement(literal) for literal in literals if literal not in found.held]
        self.assertEqual(found.answer, solve(question, *others).answer)
        self.check_answer(question, found.answer, literals)
        self.assertIsInstance(found.papers, tuple)
        sets = []
        for paper in found.papers:
            outcome = self.outcome_of(question, paper)
            self.assertTrue(set(outcome) <= set(literals))
            sets.append([literals.index(literal) for literal in outcome])
        best = least_hitting(sets, [weights[literal] for literal in literals])
        self.assertEqual(tuple(literals[place] for place in best), found.held)
        return found.held


class ExamplesTest(CostCase):
    def test_the_least_sum(self):
        question = Question([P, Q], [Q, R], [P, R])
        self.assertEqual(self.check(question, {P: 1, Q: 2, R: 3}), (P, Q))
        self.assertEqual(self.check(question, {P: 3, Q: 2, R: 1}), (Q, R))
        self.assertEqual(self.check(question, {P: 1, Q: 5}), (P,))
        self.assertEqual(self.check(question, {NP: 1, NQ: 5}), ())

    def test_equal_weights(self):
        question = Question([P, Q, R])
        self.assertEqual(self.check(question, {R: 2, Q: 2, P: 2}), (P,))
        # Fewer literals of the same sum are better.
        self.assertEqual(self.check(Question([P, Q], [P, R]), {P: 2, Q: 1, R: 1}), (P,))
        self.assertEqual(self.check(Question([P, Q], [P, R]), {P: 3, Q: 1, R: 1}), (Q, R))
        # Of as many literals the lesser tuple is better.
        self.assertEqual(self.check(Question([P, Q], [R, S]), {P: 1, Q: 1, R: 1, S: 1}), (P, R))
        self.assertEqual(self.check(Question([P, Q, R], [P, Q, S], [NP, NQ], [NP, S], [NQ, R]),
                                    {P: 1, Q: 1, R: 1, S: 1}), (P, S))

    def test_weights_of_thirty_digits(self):
        big = 10 ** 29
        question = Question([P, Q], [P, R])
        self.assertEqual(self.check(question, {P: 2 * big + 1, Q: big, R: big}), (Q, R))
        self.assertEqual(self.check(question, {P: 2 * big - 1, Q: big, R: big}), (P,))
        self.assertEqual(self.check(question, {P: 2 * big, Q: big, R: big}), (P,))
        found = cheapest(question, {P: 2 * big + 1, Q: big, R: big})
        self.assertEqual(found.cost, 2 * big)

    def test_names_that_the_question_does_not_have(self):
        bound = most("a", "b", -3)
        self.assertEqual(self.check(Question([P]), {S: 4, bound: 2}), ())
        self.assertEqual(cheapest(Question([P]), {S: 4, bound: 2}).answer, (("p",), (("a", 0), ("b", 0))))
        self.assertEqual(self.check(Question([P]), {NS: 4, bound: 2, P: 1}), (P,))
        self.assertEqual(cheapest(Question([P]), {NS: 4}).answer, (("p", "s"), ()))
        self.assertEqual(self.check(Question(), {most("x", "a", 0): 1, most("a", "x", 0): 3}), (most("x", "a", 0),))

    def test_a_literal_and_its_complement(self):
        self.assertEqual(self.check(Question(), {P: 3, NP: 2}), (NP,))
        self.assertEqual(self.check(Question(), {P: 2, NP: 2}), (NP,))
        self.assertEqual(self.check(Question([P]), {P: 3, NP: 2}), (P,))
        self.assertEqual(self.check(Question(), {XY: 3, YX: 2}), (YX,))
        self.assertEqual(self.check(Question([XY, P]), {XY: 3, YX: 2, P: 2, NP: 7}), (YX, P))
        self.assertEqual(self.check(Question([XY, P]), {XY: 3, YX: 2, P: 4, NP: 2}), (XY, NP))

    def test_bounds_that_imply_each_other(self):
        # A gap of at most 0 is one of at most 2 and of at most 5, too.
        bounds = [most("x", "y", 0), most("x", "y", 2), most("x", "y", 5)]
        weights = {bound: 1 for bound in bounds}
        self.assertEqual(self.check(Question(), weights), ())
        self.assertEqual(self.check(Question([most("x", "y", 1)]), weights), (bounds[1], bounds[2]))
        self.assertEqual(self.check(Question([bounds[0]]), weights), tuple(bounds))
        # One of these four must hold, two of them at the least cost.
        both = {most("x", "y", 0): 4, most("y", "x", 0): 4, most("x", "y", 3): 1, most("y", "x", 3): 1}
        self.assertEqual(self.check(Question(), both), (most("x", "y", 0), most("x", "y", 3)))
        both = {most("x", "y", -1): 4, most("y", "x", -1): 4, most("x", "y", 3): 1, most("y", "x", 3): 1}
        self.assertEqual(self.check(Question(), both), (most("x", "y", 3), most("y", "x", 3)))

    def test_rings_of_bounds(self):
        bounds = [most("x", "y", -1), most("y", "z", -1), most("z", "x", -1)]
        opposed = {complement(bound): weight for bound, weight in zip(bounds, [5, 3, 4])}
        self.assertEqual(self.check(Question(), opposed), (complement(bounds[1]),))

    def test_an_empty_dict(self):
        for question in [Question(), Question([P, Q], [NP]), Question([XY], [most("z", "x", 4)])]:
            found = cheapest(question, {})
            self.assertEqual([found.cost, found.held, found.papers], [0, (), ()])
            self.assertEqual(found.answer, solve(question).answer)

    def test_the_answer_is_that_of_solve(self):
        question = Question([P, Q, R, S], [NP, most("x", "y", 0)])
        found = cheapest(question, {R: 3, P: 1, Q: 1})
        self.assertEqual([found.cost, found.held], [0, ()])
        self.assertEqual(found.answer, solve(question, NP, NQ, NR).answer)

    def test_twelve_literals(self):
        names = "abcdefghijkl"
        pairs = [[yes(names[at]), yes(names[(at + step) % 12])] for at in range(12) for step in (1, 5)]
        question = Question(*pairs, [no("a"), no("c"), no("e")])
        weights = {yes(name): 1 + at * at % 7 for at, name in enumerate(names)}
        held = self.check(question, weights)
        self.assertEqual(held, slow_held(question, weights))

    def test_at_least_three_of_seven_steps(self):
        moments = "stuvwxyz"
        steps = [most(moments[at], moments[at + 1], -1) for at in range(7)]
        weights = {complement(step): 1 for step in steps}
        # No step goes back, and all seven together lead at most 4 on.
        question = Question([most("z", "s", 4)], *[[most(step[1], step[2], 0)] for step in steps])
        held = self.check(question, weights)
        self.assertEqual(held, tuple(sorted(complement(step) for step in steps))[:3])

    def test_results_may_be_made(self):
        found = Cheapest(4, (P,), ((), ()), ("papers",))
        self.assertEqual([found.cost, found.held, found.answer, found.papers], [4, (P,), ((), ()), ("papers",)])


class ErrorTest(CostCase):
    def test_literals_come_first(self):
        for value in NO_LITERALS:
            if not can_be_key(value):
                continue
            for question in [Question([P]), Question([])]:
                self.raises(InvalidLiteral, value, cheapest, question, {Q: 0, value: 1, "none": 2, P: -1})
                self.raises(InvalidLiteral, value, cheapest, question, {value: 0})

    def test_the_first_key_in_the_order_of_the_dict(self):
        self.raises(InvalidLiteral, "b", cheapest, Question(), {Q: 1, "b": 1, "a": 1})
        self.raises(InvalidLiteral, "a", cheapest, Question(), {Q: 1, "a": 1, "b": 1})
        value = ("most", "x", "y", True)
        self.raises(InvalidLiteral, value, cheapest, Question(), {value: 1, ("most", "x", "y", 2): 1})

    def test_then_weights(self):
        for value in NO_WEIGHTS:
            for question in [Question([P, Q]), Question([]), Question([P], [NP])]:
                for weights in [{P: value}, {P: 1, Q: value}, {Q: value, P: 1}]:
                    with self.assertRaises(InvalidWeights):
                        cheapest(question, weights)

    def test_then_no_answer(self):
        for question in [Question([]), Question([P], [NP]), Question([XY], [YX], [P, Q])]:
            for weights in [{}, {P: 1}, {NP: 2, Q: 7, most("a", "b", 0): 1}, {XY: 1}]:
                self.has_no_answer(question, cheapest, question, weights)


class ChanceTest(CostCase):
    def some_weights(self, chance, question):
        others = some_atoms(chance, 2, 1) + [yes("z"), most("w", "x", 1)]
        atoms = [*question.atoms, *chance.sample(others, 2)]
        pool = [literal for atom in atoms for literal in (atom, complement(atom))]
        chosen = chance.sample(pool, min(len(pool), chance.randrange(1, 8)))
        return {literal: chance.choice([1, 1, 2, 3, 10 ** 29 + 1]) for literal in chosen}

    def test_against_all_standings(self):
        chance = random.Random(57)
        sizes = []
        for _ in range(300):
            question = some_questions(chance)
            weights = self.some_weights(chance, question)
            expected = slow_held(question, weights)
            if expected is None:
                self.has_no_answer(question, cheapest, question, weights)
            else:
                self.assertEqual(self.check(question, weights), expected)
                sizes.append(len(expected))
        for size in range(4):
            self.assertGreater(sizes.count(size), 10, size)

    def test_bounds_between_two_moments(self):
        chance = random.Random(75)
        for _ in range(150):
            atoms = some_atoms(chance, 1, 5, -3, 3, "xy")
            question = Question(*[some_clause(chance, atoms, 2) for _ in range(chance.randrange(3))])
            literals = {chance.choice([atom, complement(atom)]) for atom in some_atoms(chance, 2, 5, -3, 3, "xy")}
            weights = {literal: chance.randrange(1, 5) for literal in sorted(literals)}
            expected = slow_held(question, weights)
            if expected is not None:
                self.assertEqual(self.check(question, weights), expected)


if __name__ == "__main__":
    unittest.main()

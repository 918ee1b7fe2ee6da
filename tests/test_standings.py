"""Point 54: all standings in order."""

import inspect
import itertools
import random
import unittest

from ringclause.errors import InvalidLiteral
from ringclause.literals import complement
from ringclause.questions import Question
from ringclause.solving import solve
from ringclause.standings import standings
from tests.cases import ProofCase
from tests.samples import HUGE, NO_LITERALS, most, no, yes
from tests.slow import slow_preferred, slow_verdict
from tests.small import loose_question, some_questions

P, Q, R, S = yes("p"), yes("q"), yes("r"), yes("s")
NP, NQ, NR, NS = no("p"), no("q"), no("r"), no("s")
XY, YX = most("x", "y", -1), most("y", "x", 0)


def slow_pairs(question, literals):
    """All choices of the preferred list that some answer fulfils, in order, with the values of the first answer."""
    wanted = slow_preferred([], list(literals)) if literals else list(question.atoms)
    pairs = []
    for flips in itertools.product([False, True], repeat=len(wanted)):
        chosen = tuple(complement(literal) if flip else literal for literal, flip in zip(wanted, flips))
        found = slow_verdict(question & Question.units(*chosen), wanted)
        if found is not None:
            pairs.append((chosen, found[1]))
    return pairs


class ExamplesTest(ProofCase):
    def test_the_atoms_of_the_question(self):
        question = Question([P, Q], [XY, NP])
        self.assertEqual(list(standings(question)), [
            ((XY, P, Q), (("p", "q"), (("x", 0), ("y", 1)))),
            ((XY, P, NQ), (("p",), (("x", 0), ("y", 1)))),
            ((XY, NP, Q), (("q",), (("x", 0), ("y", 1)))),
            ((YX, NP, Q), (("q",), (("x", 0), ("y", 0)))),
        ])

    def test_told_literals(self):
        question = Question([P, Q])
        self.assertEqual(list(standings(question, NQ)), [((NQ,), (("p",), ())), ((Q,), (("p", "q"), ()))])
        self.assertEqual(list(standings(question, NQ, NP)),
                         [((NQ, P), (("p",), ())), ((Q, NP), (("q",), ())), ((Q, P), (("p", "q"), ()))])

    def test_literals_of_an_earlier_atom(self):
        question = Question([P, Q], [XY, YX])
        for first, second in [((NP, Q), (NP, P, Q, NP, NQ)), ((YX, P), (YX, XY, YX, P)), ((P,), (P, P, NP))]:
            self.assertEqual(list(standings(question, *second)), list(standings(question, *first)))
        self.assertEqual([chosen for chosen, _ in standings(question, NP, P, Q)], [(NP, Q), (P, Q), (P, NQ)])

    def test_names_that_the_question_does_not_have(self):
        question = Question([P])
        bound = most("a", "b", -2)
        self.assertEqual(list(standings(question, NS, bound)), [
            ((NS, bound), (("p",), (("a", 0), ("b", 2)))),
            ((NS, complement(bound)), (("p",), (("a", 0), ("b", 0)))),
            ((S, bound), (("p", "s"), (("a", 0), ("b", 2)))),
            ((S, complement(bound)), (("p", "s"), (("a", 0), ("b", 0)))),
        ])

    def test_bounds_that_the_question_does_not_have(self):
        # x is at least 2 and at most 4 above y.
        question = Question([most("x", "y", 4)], [most("y", "x", -2)])
        wider, tight = most("x", "y", 7), most("x", "y", 2)
        self.assertEqual([chosen for chosen, _ in standings(question, wider, tight)],
                         [(wider, tight), (wider, complement(tight))])
        for chosen, values in standings(question, most("x", "y", 3), most("y", "x", -3)):
            self.check_answer(question & Question.units(*chosen), values)

    def test_a_question_with_no_atoms(self):
        self.assertEqual(list(standings(Question())), [((), ((), ()))])
        self.assertEqual(list(standings(Question([]))), [])
        self.assertEqual(list(standings(Question([]), P)), [])
        self.assertEqual(list(standings(Question(), NP)), [((NP,), ((), ())), ((P,), (("p",), ()))])

    def test_no_answer(self):
        for question in [Question([P], [NP]), Question([XY], [YX]), Question([], [P])]:
            for literals in [(), (P,), (NS, XY)]:
                self.assertEqual(list(standings(question, *literals)), [])

    def test_bounds_of_a_hundred_digits(self):
        question = Question([most("x", "y", -HUGE), P])
        found = list(standings(question))
        self.assertEqual([chosen[0] for chosen, _ in found], [most("x", "y", -HUGE)] * 2 + [most("y", "x", HUGE - 1)])
        self.assertEqual(found[0][1][1], (("x", 0), ("y", HUGE)))


class OneByOneTest(ProofCase):
    def test_very_many(self):
        names = [f"p{number}" for number in range(20)]
        question = Question([yes(name) for name in names], [most("x", "y", 0), yes("p0")])
        found = list(itertools.islice(standings(question), 5))
        self.assertEqual([chosen[-3:] for chosen, _ in found], [
            tuple((yes if held else no)(name) for name, held in zip(["p7", "p8", "p9"], holds))
            for holds in [(1, 1, 1), (1, 1, 0), (1, 0, 1), (1, 0, 0), (0, 1, 1)]])

    def test_a_generator(self):
        self.assertTrue(inspect.isgenerator(standings(Question([P]))))
        pairs = standings(Question([P, Q]))
        self.assertEqual(next(pairs)[0], (P, Q))
        self.assertEqual(next(pairs)[0], (P, NQ))
        self.assertEqual([chosen for chosen, _ in pairs], [(NP, Q)])

    def test_two_at_once(self):
        question = Question([P, Q])
        first, second = standings(question), standings(question, NQ, NP)
        mixed = [next(first), next(second), next(first), next(second), next(first), next(second)]
        self.assertEqual(mixed[::2], list(standings(question)))
        self.assertEqual(mixed[1::2], list(standings(question, NQ, NP)))


class ErrorTest(ProofCase):
    def test_raised_with_the_first_pair(self):
        for question in [Question([P, Q]), Question([]), Question()]:
            for value in NO_LITERALS:
                for literals in [(value,), (P, value, None), (S, NS, P, value, Q)]:
                    pairs = standings(question, *literals)
                    self.raises(InvalidLiteral, value, next, pairs)


class ChanceTest(ProofCase):
    def same(self, question, literals):
        clauses = question.clauses
        found = list(standings(question, *literals))
        self.assertEqual(found, slow_pairs(question, literals))
        self.assertEqual(question.clauses, clauses)
        wanted = slow_preferred([], literals) if literals else list(question.atoms)
        for chosen, values in found:
            self.check_frozen(chosen, values)
            self.assertEqual(values, solve(question, *chosen, order=wanted).answer)
            self.check_answer(question & Question.units(*chosen), values)
        self.assertEqual(len({chosen for chosen, _ in found}), len(found))
        return len(found)

    def test_the_atoms(self):
        chance = random.Random(54)
        counts = [self.same(some_questions(chance), []) for _ in range(80)]
        self.assertGreater(len([count for count in counts if count > 4]), 10)
        self.assertIn(0, counts)

    def test_several_lists_of_literals(self):
        chance = random.Random(45)
        for _ in range(40):
            question = some_questions(chance)
            others = [yes("z"), most("w", "x", 1), most("x", "y", 0), most("y", "z", -1)]
            pool = [literal for atom in [*question.atoms, *others] for literal in (atom, complement(atom))]
            self.same(question, [chance.choice(pool) for _ in range(chance.randrange(1, 6))])
            self.same(question, [chance.choice(pool)] * 2)

    def test_the_atoms_in_another_order(self):
        chance = random.Random(4)
        for _ in range(20):
            question = loose_question(chance)
            literals = [chance.choice([atom, complement(atom)]) for atom in question.atoms]
            chance.shuffle(literals)
            found = self.same(question, literals)
            self.assertEqual(found, len(list(standings(question))))


if __name__ == "__main__":
    unittest.main()

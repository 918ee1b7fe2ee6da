"""Point 55: which atoms are settled."""

import random
import unittest

from ringclause.errors import NoAnswer
from ringclause.literals import atom_of, complement, holds
from ringclause.questions import Question
from ringclause.survey import Survey, survey
from tests.cases import ProofCase
from tests.samples import HUGE, most, no, yes
from tests.slow import slow_standings
from tests.small import some_questions

P, Q, R, S = yes("p"), yes("q"), yes("r"), yes("s")
NP, NQ, NR, NS = no("p"), no("q"), no("r"), no("s")
XY, YX = most("x", "y", -1), most("y", "x", 0)


class SurveyCase(ProofCase):
    def check(self, question):
        """The survey is what point 55 says; its sure literals and unsure atoms."""
        found = survey(question)
        self.assertIsInstance(found, Survey)
        self.check_frozen_object(found)
        for rows in (found.sure, found.unsure):
            self.assertIsInstance(rows, tuple)
            atoms = [atom_of(row[0]) for row in rows]
            self.assertEqual(atoms, sorted(set(atoms)))
        for literal, paper in found.sure:
            self.assertEqual(self.outcome_of(question, paper), (literal,))
        for atom, values, others in found.unsure:
            self.check_answer(question, values)
            self.check_answer(question, others)
            self.assertEqual([holds(atom, values), holds(atom, others)], [True, False])
        sure, unsure = [row[0] for row in found.sure], [row[0] for row in found.unsure]
        self.assertEqual(sorted([*[atom_of(literal) for literal in sure], *unsure]), list(question.atoms))
        return sure, unsure


class ExamplesTest(SurveyCase):
    def test_sure_and_unsure(self):
        question = Question([P], [NP, Q], [NQ, R, S], [NR, NS])
        self.assertEqual(self.check(question), ([P, Q], [R, S]))

    def test_the_complement_of_an_atom(self):
        self.assertEqual(self.check(Question([NP], [P, NQ], [R, S])), ([NP, NQ], [R, S]))
        # The atom is x-y<=-1.
        self.assertEqual(self.check(Question([YX])), ([YX], []))
        self.assertEqual(self.check(Question([most("x", "y", -3)])), ([most("x", "y", -3)], []))

    def test_what_several_clauses_tell_together(self):
        self.assertEqual(self.check(Question([P, Q], [P, NQ], [NP, R, S], [NP, R, NS])), ([P, R], [Q, S]))

    def test_what_bounds_tell(self):
        # x is below y, and y below z.
        question = Question([XY], [most("y", "z", -1)], [most("z", "x", 5), P], [most("x", "z", -2), Q])
        self.assertEqual(self.check(question), ([most("x", "y", -1), most("x", "z", -2), most("y", "z", -1)],
                                                [most("x", "z", -6), P, Q]))

    def test_bounds_that_imply_each_other(self):
        question = Question([most("x", "y", 0), P], [most("x", "y", 3), Q], [NP])
        self.assertEqual(self.check(question), ([most("x", "y", 0), most("x", "y", 3), NP], [Q]))

    def test_clauses_that_are_always_fulfilled(self):
        self.assertEqual(self.check(Question([P, NP])), ([], [P]))
        self.assertEqual(self.check(Question([XY, YX])), ([], [most("x", "y", -1)]))
        # One of the two bounds holds whatever x and y are, but each may fail.
        bounds = [most("x", "y", 0), most("y", "x", 0)]
        self.assertEqual(self.check(Question(bounds)), ([], [most("x", "y", -1), most("x", "y", 0)]))
        self.assertEqual(self.check(Question([P, NP], [P], [Q, NQ])), ([P], [Q]))

    def test_no_clauses(self):
        found = survey(Question())
        self.assertEqual([found.sure, found.unsure], [(), ()])

    def test_a_hundred_digits(self):
        question = Question([most("x", "y", -HUGE)], [most("y", "z", HUGE), P], [NP])
        self.assertEqual(self.check(question)[0], [most("x", "y", -HUGE), most("y", "z", HUGE), NP])

    def test_many_atoms(self):
        names = [f"p{number}" for number in range(20)]
        clauses = [[no(name), yes(after)] for name, after in zip(names, names[1:])]
        question = Question(*clauses, [yes("p9")], [most("x", "y", 0), no("p4")], [most("y", "z", 0), no("p12")],
                            [most("z", "x", -1), yes("p2"), yes("p3")])
        sure, unsure = self.check(question)
        self.assertEqual(sure, sorted([most("y", "z", 0), *[yes(name) for name in names[9:]]]))
        self.assertEqual(len(unsure), 11)

    def test_surveys_may_be_made(self):
        found = Survey(("sure",), ("unsure",))
        self.assertEqual([found.sure, found.unsure], [("sure",), ("unsure",)])


class NoAnswerTest(SurveyCase):
    def test_no_answer(self):
        for question in [Question([]), Question([P], [NP]), Question([XY], [YX]), Question([], [Q]),
                         Question([P, Q], [P, NQ], [NP, Q], [NP, NQ])]:
            self.has_no_answer(question, survey, question)


class ChanceTest(SurveyCase):
    def test_against_all_standings(self):
        chance = random.Random(55)
        sizes = []
        for _ in range(300):
            question = some_questions(chance)
            clauses = question.clauses
            all_chosen = [chosen for chosen, _ in slow_standings(question, question.atoms)]
            if not all_chosen:
                self.has_no_answer(question, survey, question)
                self.assertRaises(NoAnswer, survey, question)
                continue
            sure, unsure = self.check(question)
            self.assertEqual(sure, [literal for literal in all_chosen[0]
                                    if all(literal in chosen for chosen in all_chosen)])
            self.assertEqual(unsure, [atom for atom in question.atoms if atom not in sure
                                      and complement(atom) not in sure])
            self.assertEqual(question.clauses, clauses)
            sizes.append((len(sure), len(unsure)))
        for size in [(0, 3), (1, 1), (2, 1), (2, 2)]:
            self.assertIn(size, sizes)


if __name__ == "__main__":
    unittest.main()

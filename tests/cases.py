"""Checks that several tests share."""

import unittest

from ringclause.errors import NoAnswer
from ringclause.forms import is_values
from ringclause.papers import check_paper
from ringclause.questions import Question
from tests.test_editing import steps_needed


class ProofCase(unittest.TestCase):
    def outcome_of(self, question, paper):
        """The outcome of a paper, which must be right for the question and cut."""
        self.assertIsInstance(paper, tuple)
        outcome = check_paper(question, paper)
        self.assertEqual(steps_needed(paper, len(paper) - 1), list(range(len(paper))))
        return outcome

    def raises(self, error, told, call, *args, **more):
        """The call raises the error, which tells the very value."""
        with self.assertRaises(error) as caught:
            call(*args, **more)
        for held in vars(caught.exception).values():
            self.assertIs(held, told)

    def has_no_answer(self, question, call, *args):
        """The call raises NoAnswer with a paper which shows that the question has none."""
        with self.assertRaises(NoAnswer) as caught:
            call(*args)
        self.assertEqual(check_paper(question, caught.exception.paper), ())

    def check_answer(self, question, values, literals=()):
        """The values fulfil the question and name what it and the literals name, and nothing else."""
        self.assertTrue(is_values(values))
        named = question & Question([*literals])
        self.assertIs(question(values), True)
        self.assertEqual([name for name, _ in values[1]], list(named.moments))
        self.assertTrue(set(values[0]) <= set(named.truths))

    def check_frozen(self, *told):
        """Nothing in what is told can be changed."""
        for value in told:
            self.assertIsInstance(value, (tuple, int, str, bool, type(None)))
            if isinstance(value, tuple):
                self.check_frozen(*value)

    def check_frozen_object(self, told):
        """Nothing in the attributes of an object can be changed, apart from questions."""
        self.check_frozen(*[value for value in vars(told).values() if not isinstance(value, Question)])

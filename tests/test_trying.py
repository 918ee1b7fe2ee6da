"""Points 12 and 13: trying all values, and the reach."""

import itertools
import random
import unittest

from ringclause.questions import Question
from ringclause.trying import reach, tries
from tests.samples import HUGE, most, no, yes


def slow_tries(question, top):
    """All values in the order of point 12, by trying everything."""
    found = []
    for bits in itertools.product([False, True], repeat=len(question.truths)):
        names = tuple(name for name, bit in zip(question.truths, bits) if bit)
        for integers in itertools.product(range(top + 1), repeat=len(question.moments)):
            values = (names, tuple(zip(question.moments, integers)))
            if question(values):
                found.append(values)
    return found


def some_questions(many):
    chance = random.Random(12)
    for _ in range(many):
        truths, moments = chance.choice([("pq", "xyz"), ("pqr", "xy"), ("p", "wxyz"), ("", "xyz"), ("pqr", "")])
        clauses = []
        for _ in range(chance.randrange(7)):
            clauses.append([some_literal(chance, truths, moments) for _ in range(chance.randrange(1, 4))])
        yield Question(*clauses)


def some_literal(chance, truths, moments):
    if not moments or truths and chance.random() < 0.4:
        return chance.choice([yes, no])(chance.choice(truths))
    return most(*chance.sample(moments, 2), chance.randrange(-2, 2))


class TriesTest(unittest.TestCase):
    def test_order(self):
        question = Question([yes("b"), yes("a"), no("a")], [most("x", "y", 5)], [most("y", "x", 5)])
        times = [(("x", x), ("y", y)) for x in range(3) for y in range(3)]
        expected = [(names, time) for names in [(), ("b",), ("a",), ("a", "b")] for time in times]
        self.assertEqual(list(tries(question, 2)), expected)

    def test_exactly_the_values_that_fulfil_the_question(self):
        question = Question.read("p | x-y<=-2\n~p | y-x<=0")
        self.assertEqual(list(tries(question, 2)), [
            ((), (("x", 0), ("y", 2))),
            (("p",), (("x", 0), ("y", 0))), (("p",), (("x", 1), ("y", 0))), (("p",), (("x", 1), ("y", 1))),
            (("p",), (("x", 2), ("y", 0))), (("p",), (("x", 2), ("y", 1))), (("p",), (("x", 2), ("y", 2))),
        ])

    def test_against_a_slow_search(self):
        for question in some_questions(250):
            for top in [0, 1, 3]:
                self.assertEqual(list(tries(question, top)), slow_tries(question, top))

    def test_top_zero(self):
        self.assertEqual(list(tries(Question.read("x-y<=0\np"), 0)), [(("p",), (("x", 0), ("y", 0)))])
        self.assertEqual(list(tries(Question.read("x-y<=-1"), 0)), [])

    def test_no_names(self):
        for top in [0, 5]:
            self.assertEqual(list(tries(Question(), top)), [((), ())])
            self.assertEqual(list(tries(Question([]), top)), [])

    def test_the_empty_clause(self):
        self.assertEqual(list(tries(Question([], [yes("p"), most("x", "y", 0)]), 3)), [])

    def test_truths_and_moments_of_one_name(self):
        self.assertEqual(list(tries(Question([yes("x"), most("x", "y", -1)]), 1)), [
            ((), (("x", 0), ("y", 1))),
            (("x",), (("x", 0), ("y", 0))), (("x",), (("x", 0), ("y", 1))),
            (("x",), (("x", 1), ("y", 0))), (("x",), (("x", 1), ("y", 1))),
        ])

    def test_one_by_one(self):
        wide = Question.units(*[most(f"x{k}", f"x{k + 1}", HUGE) for k in range(7)])
        found = tries(wide, HUGE)
        self.assertIs(iter(found), found)
        first, second = next(found), next(found)
        self.assertEqual(first, ((), tuple((f"x{k}", 0) for k in range(8))))
        self.assertEqual(second, ((), tuple((f"x{k}", 1 if k == 7 else 0) for k in range(8))))
        many = Question([yes(f"p{k}") for k in range(20)])
        self.assertEqual(list(itertools.islice(tries(many, 0), 2)), [(("p9",), ()), (("p8",), ())])


class ReachTest(unittest.TestCase):
    def test_no_moments(self):
        for question in [Question(), Question([]), Question([yes("p")], [no("q")])]:
            self.assertEqual(reach(question), 0)

    def test_bounds_of_both_signs(self):
        for k in [0, 1, -1, 2, -2, 9, -9, HUGE, -HUGE]:
            expected = max(-k, k + 1)
            self.assertEqual(reach(Question([most("x", "y", k)])), expected)
            self.assertEqual(reach(Question([most("y", "x", k), yes("p")])), expected)
            self.assertEqual(reach(Question([most("x", "y", k)], [most("a", "x", -1)])), 2 * expected)
        self.assertEqual(reach(Question([most("x", "y", 3)], [most("x", "y", -7)])), 7)
        self.assertEqual(reach(Question([most("x", "y", 7)], [most("x", "y", -7)])), 8)
        self.assertEqual(reach(Question([most("a", "b", 4)], [most("c", "d", -4)])), 15)

    def test_answers_that_need_the_whole_reach(self):
        for text in ["a-b<=-3\nb-c<=-3", "c-b<=-4\nb-a<=-4", "a-b<=-2\nb-c<=-2\nc-d<=-2", "~p\np | x-y<=-5",
                     "p\n~p | y-x<=-5"]:
            question = Question.read(text)
            self.assertTrue(list(tries(question, reach(question))))
            self.assertEqual(list(tries(question, reach(question) - 1)), [])

    def test_some_answer_is_within_the_reach(self):
        for question in some_questions(150):
            wide = reach(question) + 2
            some = next(tries(question, reach(question)), None)
            if some is None:
                self.assertEqual(slow_tries(question, wide), [])
            else:
                self.assertIs(question(some), True)


if __name__ == "__main__":
    unittest.main()

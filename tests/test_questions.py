"""Points 10 and 11: questions and their texts."""

import itertools
import unittest

from ringclause.errors import InvalidClause, InvalidLiteral, InvalidText, UnknownMoment
from ringclause.literals import clause_holds
from ringclause.questions import Question
from tests.samples import HUGE, NO_LITERALS, PLAIN, Stubborn, most, no, yes

FIRST = [yes("q"), most("y", "x", 3), yes("q")]
SECOND = (no("p"),)
CLAUSES = ((most("y", "x", 3), yes("q")), (no("p"),))


class QuestionTest(unittest.TestCase):
    def test_clauses(self):
        for clauses in itertools.permutations([FIRST, SECOND, list(SECOND)]):
            self.assertEqual(Question(*clauses).clauses, CLAUSES)
        self.assertEqual(Question().clauses, ())
        self.assertEqual(Question([], ()).clauses, ((),))
        self.assertEqual(Question([yes("b")], [yes("a")], [], [no("a"), yes("z")]).clauses,
                         ((), (no("a"), yes("z")), (yes("a"),), (yes("b"),)))

    def test_names_and_atoms(self):
        question = Question([no("q"), most("y", "x", 3), yes("a")], [most("x", "y", -4), most("c", "b", 0)], [yes("q")])
        self.assertEqual(question.atoms, (most("b", "c", -1), most("x", "y", -4), yes("a"), yes("q")))
        self.assertEqual(question.truths, ("a", "q"))
        self.assertEqual(question.moments, ("b", "c", "x", "y"))
        empty = Question()
        self.assertEqual([empty.atoms, empty.truths, empty.moments], [(), (), ()])
        bare = Question([])
        self.assertEqual([bare.atoms, bare.truths, bare.moments], [(), (), ()])

    def test_truths_and_moments_of_one_name(self):
        question = Question([yes("x"), most("x", "y", 0)])
        self.assertEqual([question.truths, question.moments], [("x",), ("x", "y")])

    def test_it_copies_what_it_is_given(self):
        clause = [yes("q"), yes("p")]
        question = Question(clause)
        self.assertEqual(clause, [yes("q"), yes("p")])
        clause.append(yes("r"))
        self.assertEqual(question.clauses, ((yes("p"), yes("q")),))

    def test_errors_of_the_first_refused_clause(self):
        for value in PLAIN:
            with self.assertRaises(InvalidClause) as caught:
                Question([yes("p")], value, [None])
            self.assertIs(caught.exception.value, value)
        for value in NO_LITERALS:
            with self.assertRaises(InvalidLiteral) as caught:
                Question([yes("p")], [yes("q"), value], 3)
            self.assertIs(caught.exception.value, value)

    def test_units(self):
        question = Question.units(yes("q"), most("x", "y", 0), yes("q"), no("p"))
        self.assertEqual(question.clauses, ((most("x", "y", 0),), (no("p"),), (yes("q"),)))
        self.assertIsInstance(question, Question)
        self.assertEqual(Question.units().clauses, ())
        for value in NO_LITERALS:
            with self.assertRaises(InvalidLiteral) as caught:
                Question.units(yes("p"), value, None)
            self.assertIs(caught.exception.value, value)


class OperatorsTest(unittest.TestCase):
    def test_and(self):
        first = Question([yes("p")], [yes("q")])
        second = Question([yes("q")], [no("p"), most("x", "y", 0)])
        joint = first & second
        self.assertEqual(joint.clauses, ((most("x", "y", 0), no("p")), (yes("p"),), (yes("q"),)))
        self.assertEqual([joint.truths, joint.moments], [("p", "q"), ("x", "y")])
        self.assertEqual(second & first, joint)
        self.assertEqual(first & Question(), first)
        self.assertEqual(Question() & first, first)
        self.assertEqual(first.clauses, ((yes("p"),), (yes("q"),)))
        self.assertEqual(second.clauses, ((most("x", "y", 0), no("p")), (yes("q"),)))

    def test_minus(self):
        first = Question([yes("p"), no("r")], [yes("q")], [most("x", "y", 0)])
        second = Question([yes("q")], [yes("p")])
        left = first - second
        self.assertEqual(left.clauses, ((most("x", "y", 0),), (no("r"), yes("p"))))
        self.assertEqual([left.truths, left.moments], [("p", "r"), ("x", "y")])
        self.assertEqual((second - first).clauses, ((yes("p"),),))
        self.assertEqual(first - first, Question())
        self.assertEqual(first - Question(), first)
        self.assertEqual(Question([]) - Question([]), Question())
        self.assertEqual(len(first), 3)

    def test_equal(self):
        question = Question(FIRST, SECOND)
        self.assertIs(question == Question(SECOND, FIRST, FIRST), True)
        self.assertIs(question != Question(SECOND, FIRST), False)
        for other in [Question(), Question(FIRST), Question(SECOND), Question(FIRST, SECOND, [])]:
            self.assertIs(question == other, False)
            self.assertIs(question != other, True)
        self.assertIs(Question([most("x", "y", 0)]) == Question([most("x", "y", 1)]), False)

    def test_not_equal_to_other_kinds(self):
        question = Question(FIRST, SECOND)
        for value in [CLAUSES, list(CLAUSES), str(question), repr(question), None, 2, True, object(), {}]:
            self.assertIs(question == value, False)
            self.assertIs(question != value, True)
        self.assertIs(question.__eq__(Stubborn()), False)
        self.assertIs(Question() == (), False)

    def test_len(self):
        self.assertEqual([len(Question()), len(Question([])), len(Question(FIRST, SECOND, FIRST))], [0, 1, 2])

    def test_in(self):
        question = Question(FIRST, SECOND)
        for clause in CLAUSES:
            self.assertIs(clause in question, True)
        for value in [list(CLAUSES[0]), CLAUSES[0][::-1], CLAUSES[0] + CLAUSES[0][:1], CLAUSES[0][:1], (), [], CLAUSES,
                      (list(CLAUSES[0][0]), CLAUSES[0][1]), no("p"), question, ([no("p")],)]:
            self.assertIs(value in question, False)
        self.assertIs((most("y", "x", 3), yes("q")) not in question, False)
        self.assertIs(() in Question([]), True)
        self.assertIs([] in Question([]), False)

    def test_in_tells_true_from_one(self):
        question = Question([most("x", "y", 1)], [most("x", "y", 0)])
        for k, expected in [(1, True), (0, True), (True, False), (False, False), (1.0, False), (0.0, False)]:
            self.assertIs((most("x", "y", k),) in question, expected)

    def test_in_for_values_of_any_kind(self):
        for question in [Question(), Question([]), Question(FIRST, SECOND)]:
            for value in NO_LITERALS:
                empty = isinstance(value, tuple) and value == ()
                self.assertIs(value in question, empty and question.clauses == ((),))
                self.assertIs((value,) in question, False)
                self.assertIs((yes("q"), value) in question, False)


class CallTest(unittest.TestCase):
    def test_example(self):
        question = Question.read("~p\np | x-y<=0")
        self.assertEqual([str(question), question.moments, question((("p",), (("x", 0), ("y", 5))))],
                         ["x-y<=0 | p\n~p", ("x", "y"), False])

    def test_all_clauses_must_hold(self):
        question = Question([yes("p"), most("x", "y", 0)], [no("p"), yes("q")], [no("q"), most("y", "x", -1)])
        for names in [(), ("p",), ("q",), ("p", "q"), ("p", "r")]:
            for x, y in itertools.product(range(-2, 3), repeat=2):
                values = (names, (("w", 7), ("x", x), ("y", y)))
                expected = all(clause_holds(clause, values) for clause in question.clauses)
                self.assertIs(question(values), expected)

    def test_no_clauses_and_the_empty_clause(self):
        self.assertIs(Question()(((), ())), True)
        self.assertIs(Question([])(((), ())), False)
        self.assertIs(Question([], [yes("p")])((("p",), ())), False)

    def test_least_missing_moment_of_the_whole_question(self):
        question = Question([yes("p"), most("x", "y", 0)], [yes("p"), most("b", "a", 0)], [yes("q")])
        for listed, name in [("", "a"), ("a", "b"), ("bxy", "a"), ("abx", "y"), ("aby", "x")]:
            for names in [("p", "q"), ("p",), ()]:
                with self.assertRaises(UnknownMoment) as caught:
                    question((names, tuple((moment, 0) for moment in listed)))
                self.assertEqual(caught.exception.name, name)


class TextTest(unittest.TestCase):
    def test_str(self):
        self.assertEqual(str(Question()), "")
        self.assertEqual(str(Question([])), "!")
        self.assertEqual(str(Question([yes("p")], [], [no("q"), yes("r")])), "!\n~q | r\np")

    def test_repr(self):
        self.assertEqual(repr(Question()), "Question()")
        self.assertEqual(repr(Question([])), "Question(())")
        self.assertEqual(repr(Question([yes("p")])), "Question((('yes', 'p'),))")
        self.assertEqual(repr(Question([yes("p")], [no("q"), most("x", "y", -2)])),
                         "Question((('most', 'x', 'y', -2), ('no', 'q')), (('yes', 'p'),))")

    def test_written_and_read(self):
        for question in [Question(), Question([]), Question(FIRST, SECOND),
                         Question(FIRST, [], [most("x", "y", -HUGE)])]:
            read = Question.read(str(question))
            self.assertIsInstance(read, Question)
            self.assertEqual(read.clauses, question.clauses)

    def test_any_order_and_duplicates(self):
        expected = ((), (most("x", "y", 0), yes("p")), (no("p"),))
        for lines in itertools.permutations(["!", "p | x-y<=0 | p", "~p", "x-y<=0 | p"]):
            self.assertEqual(Question.read("\n".join(lines)).clauses, expected)

    def test_first_wrong_line(self):
        for text, line in [
            ("p\n", 2), ("\n", 1), ("\np", 1), ("p\n\nq", 2), ("p\nq\n", 3), ("p\n\n", 2), ("!\n", 2), (" ", 1),
            ("p\nq |\nr", 2), ("p\nq\nr ", 3), ("~~p\nq |", 1), ("p\tq", 1), ("p\n\tq", 2), ("p\nx-x<=0", 2),
            ("p\nx-y<=-0\n~", 2), ("p | \nq", 1), ("p\nq\nr\ns\n!!", 5), ("x-y<=" + "1" * 201, 1),
        ]:
            with self.subTest(text=text):
                with self.assertRaises(InvalidText) as caught:
                    Question.read(text)
                self.assertEqual(caught.exception.line, line)


if __name__ == "__main__":
    unittest.main()

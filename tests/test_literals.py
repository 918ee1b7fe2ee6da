"""Points 2 and 4 to 8: literals, clauses, and whether they hold."""

import itertools
import unittest

from ringclause.errors import InvalidClause, InvalidLiteral, UnknownMoment
from ringclause.literals import atom_of, atoms_of, clause_holds, clause_of, complement, holds, is_literal
from tests.samples import BAD_NAMES, GOOD_NAMES, HUGE, NO_LITERALS, PLAIN, most, no, yes

INTEGERS = [0, 1, -1, 2, -2, 17, -17, HUGE, -HUGE, 10 ** 99, -(10 ** 99)]
LITERALS = [yes("p"), no("p"), yes("abcdefgh"), no("a0")] + [
    most(x, y, k) for x, y in [("x", "y"), ("y", "x"), ("a", "z9"), ("abcdefgh", "abcdefgg")] for k in INTEGERS]
VALUES = (("p", "q"), (("x", 3), ("y", 1), ("z", -HUGE)))


class NamesTest(unittest.TestCase):
    def test_good_names(self):
        for name in GOOD_NAMES:
            other = "m" if name != "m" else "n"
            for literal in [yes(name), no(name), most(name, other, 0), most(other, name, 0)]:
                self.assertIs(is_literal(literal), True, literal)

    def test_every_letter_and_digit(self):
        for sign in "abcdefghijklmnopqrstuvwxyz":
            self.assertIs(is_literal(yes(sign)), True)
            self.assertIs(is_literal(yes("a" + sign)), True)
        for sign in "0123456789":
            self.assertIs(is_literal(yes(sign)), False)
            self.assertIs(is_literal(yes("a" + sign)), True)

    def test_no_other_sign(self):
        for code in [*range(0, 300), 0x660, 0x966, 0xFF11]:
            sign = chr(code)
            inner = "a" <= sign <= "z" or "0" <= sign <= "9"
            self.assertIs(is_literal(yes("a" + sign)), inner, code)
            self.assertIs(is_literal(yes(sign)), "a" <= sign <= "z", code)

    def test_bad_names(self):
        for name in BAD_NAMES:
            for literal in [yes(name), no(name), most(name, "m", 0), most("m", name, 0)]:
                self.assertIs(is_literal(literal), False, literal)

    def test_a_truth_and_a_moment_of_one_name(self):
        self.assertEqual(clause_of([yes("x"), most("x", "y", 0)]), (most("x", "y", 0), yes("x")))
        self.assertIs(holds(yes("x"), ((), (("x", 1),))), False)
        with self.assertRaises(UnknownMoment):
            holds(most("x", "y", 0), (("x", "y"), ()))


class IsLiteralTest(unittest.TestCase):
    def test_literals(self):
        for literal in LITERALS:
            self.assertIs(is_literal(literal), True)

    def test_other_values(self):
        for value in NO_LITERALS:
            self.assertIs(is_literal(value), False)


class ComplementTest(unittest.TestCase):
    def test_example(self):
        self.assertEqual([complement(most("y", "x", 3)), atom_of(no("p"))], [most("x", "y", -4), yes("p")])

    def test_truths(self):
        self.assertEqual(complement(yes("p")), no("p"))
        self.assertEqual(complement(no("p")), yes("p"))

    def test_bounds(self):
        for k in INTEGERS:
            self.assertEqual(complement(most("x", "y", k)), most("y", "x", -k - 1))
            self.assertEqual(complement(most("y", "x", k)), most("x", "y", -k - 1))

    def test_twice(self):
        for literal in LITERALS:
            self.assertNotEqual(complement(literal), literal)
            self.assertEqual(complement(complement(literal)), literal)

    def test_exactly_one_of_both_holds(self):
        for literal in [yes("p"), no("p"), yes("q")] + [most(x, y, k) for x, y in ["xy", "yx"] for k in range(-3, 4)]:
            for names, x, y in itertools.product([(), ("p",), ("p", "q")], range(-2, 3), range(-2, 3)):
                values = (names, (("x", x), ("y", y)))
                self.assertIs(holds(complement(literal), values), not holds(literal, values))

    def test_wrong_values(self):
        for function in [complement, atom_of]:
            for value in NO_LITERALS:
                with self.assertRaises(InvalidLiteral) as caught:
                    function(value)
                self.assertIs(caught.exception.value, value)


class AtomsTest(unittest.TestCase):
    def test_truths(self):
        self.assertEqual([atom_of(yes("p")), atom_of(no("p"))], [yes("p"), yes("p")])

    def test_bounds(self):
        for k in INTEGERS:
            self.assertEqual(atom_of(most("x", "y", k)), most("x", "y", k))
            self.assertEqual(atom_of(most("y", "x", k)), most("x", "y", -k - 1))

    def test_one_atom_for_a_literal_and_its_complement(self):
        for literal in LITERALS:
            self.assertIn(atom_of(literal), [literal, complement(literal)])
            self.assertEqual(atom_of(complement(literal)), atom_of(literal))

    def test_several(self):
        literals = [yes("q"), most("y", "x", 3), no("p"), yes("p"), most("x", "y", -4), most("a", "b", 2), no("q"),
                    most("x", "y", -5)]
        expected = (most("a", "b", 2), most("x", "y", -5), most("x", "y", -4), yes("p"), yes("q"))
        self.assertEqual(atoms_of(literals), expected)
        self.assertEqual(atoms_of(tuple(literals)), expected)
        self.assertEqual([atoms_of([]), atoms_of(())], [(), ()])

    def test_first_wrong_item(self):
        for value in NO_LITERALS:
            with self.assertRaises(InvalidLiteral) as caught:
                atoms_of([yes("p"), value, ("no",)])
            self.assertIs(caught.exception.value, value)


class ClauseOfTest(unittest.TestCase):
    def test_order_and_duplicates(self):
        literals = [yes("p"), no("q"), most("x", "y", 2), most("x", "y", -10), no("p"), yes("p"), most("a", "z", 5),
                    no("q")]
        expected = (most("a", "z", 5), most("x", "y", -10), most("x", "y", 2), no("p"), no("q"), yes("p"))
        self.assertEqual(clause_of(literals), expected)
        self.assertEqual(clause_of(tuple(literals)), expected)
        self.assertEqual(clause_of(expected), expected)
        self.assertIsInstance(clause_of(literals), tuple)

    def test_all_orders(self):
        expected = (most("x", "y", 9), most("x", "y", 10), most("y", "x", -1), no("b"), yes("a"))
        for order in itertools.permutations(expected):
            self.assertEqual(clause_of(list(order)), expected)

    def test_empty_clause(self):
        self.assertEqual([clause_of([]), clause_of(())], [(), ()])

    def test_literal_and_its_complement(self):
        self.assertEqual(clause_of([yes("p"), no("p")]), (no("p"), yes("p")))
        self.assertEqual(clause_of([most("y", "x", -1), most("x", "y", 0)]), (most("x", "y", 0), most("y", "x", -1)))

    def test_no_list_and_no_tuple(self):
        for value in PLAIN:
            with self.assertRaises(InvalidClause) as caught:
                clause_of(value)
            self.assertIs(caught.exception.value, value)

    def test_first_wrong_item(self):
        for value in NO_LITERALS:
            for literals in [[value], (value,), [yes("p"), value, None], (yes("p"), yes("p"), value, ("no", 3))]:
                with self.assertRaises(InvalidLiteral) as caught:
                    clause_of(literals)
                self.assertIs(caught.exception.value, value)

    def test_a_literal_is_no_clause(self):
        with self.assertRaises(InvalidLiteral) as caught:
            clause_of(yes("p"))
        self.assertEqual(caught.exception.value, "yes")

    def test_the_argument_stays(self):
        literals = [yes("q"), yes("p"), yes("q")]
        clause = clause_of(literals)
        self.assertEqual(literals, [yes("q"), yes("p"), yes("q")])
        literals.append(no("r"))
        self.assertEqual(clause, (yes("p"), yes("q")))


class HoldsTest(unittest.TestCase):
    def test_truths(self):
        for name, expected in [("p", True), ("q", True), ("r", False), ("x", False)]:
            self.assertIs(holds(yes(name), VALUES), expected)
            self.assertIs(holds(no(name), VALUES), not expected)

    def test_around_the_integer(self):
        for k in INTEGERS:
            for low in [0, 5, -5, HUGE]:
                for difference, expected in [(k - 1, True), (k, True), (k + 1, False)]:
                    values = ((), (("x", low + difference), ("y", low)))
                    self.assertIs(holds(most("x", "y", k), values), expected)
                    self.assertIs(clause_holds([most("x", "y", k)], values), expected)

    def test_a_part_of_a_name_is_no_name(self):
        self.assertIs(holds(yes("p"), (("pp",), ())), False)

    def test_missing_moments(self):
        for literal, times, name in [
            (most("x", "y", 0), (), "x"), (most("y", "x", 0), (), "x"), (most("y", "x", 0), (("x", 1),), "y"),
            (most("x", "y", 0), (("y", 1),), "x"), (most("a", "y", 0), (("x", 0), ("y", 1)), "a"),
        ]:
            with self.assertRaises(UnknownMoment) as caught:
                holds(literal, (("x", "y", "a"), times))
            self.assertEqual(caught.exception.name, name)

    def test_wrong_literals_come_first(self):
        for value in NO_LITERALS:
            with self.assertRaises(InvalidLiteral) as caught:
                holds(value, ((), ()))
            self.assertIs(caught.exception.value, value)


class ClauseHoldsTest(unittest.TestCase):
    def test_one_literal_is_enough(self):
        values = (("p",), (("x", 3), ("y", 1)))
        right = [yes("p"), no("q"), most("x", "y", 2), most("y", "x", -2)]
        wrong = [no("p"), yes("q"), most("x", "y", 1), most("y", "x", -3)]
        self.assertIs(clause_holds(wrong, values), False)
        for literal in right:
            self.assertIs(clause_holds([literal], values), True)
            self.assertIs(clause_holds([*wrong, literal], values), True)
            self.assertIs(clause_holds((literal, *wrong), values), True)
        for literal in wrong:
            self.assertIs(clause_holds((literal,), values), False)

    def test_empty_clause(self):
        self.assertIs(clause_holds((), VALUES), False)
        self.assertIs(clause_holds([], ((), ())), False)

    def test_literal_and_its_complement(self):
        self.assertIs(clause_holds([yes("r"), no("r")], ((), ())), True)

    def test_least_missing_moment_of_the_whole_clause(self):
        clause = [yes("p"), most("x", "y", 5), most("w", "v", 0), most("y", "b", 3)]
        for listed, name in [((), "b"), (("b",), "v"), (("b", "v", "w", "x"), "y"), (("v", "w", "x", "y"), "b"),
                             (("b", "v", "x", "y"), "w")]:
            with self.assertRaises(UnknownMoment) as caught:
                clause_holds(clause, (("p",), tuple((moment, 0) for moment in listed)))
            self.assertEqual(caught.exception.name, name)

    def test_order_of_the_errors(self):
        for value in PLAIN:
            with self.assertRaises(InvalidClause) as caught:
                clause_holds(value, ((), ()))
            self.assertIs(caught.exception.value, value)
        for value in NO_LITERALS:
            with self.assertRaises(InvalidLiteral) as caught:
                clause_holds([most("x", "y", 0), value, ()], ((), ()))
            self.assertIs(caught.exception.value, value)

    def test_the_arguments_stay(self):
        clause = [yes("q"), yes("p"), yes("q")]
        clause_holds(clause, ((), ()))
        self.assertEqual(clause, [yes("q"), yes("p"), yes("q")])


if __name__ == "__main__":
    unittest.main()

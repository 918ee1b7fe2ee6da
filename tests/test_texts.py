"""Points 9 and 45: texts of literals, clauses and values."""

import itertools
import unittest

from ringclause.errors import InvalidClause, InvalidLiteral, InvalidText
from ringclause.texts import read_clause, read_literal, read_values, write_clause, write_literal, write_values
from tests.samples import HUGE, NO_LITERALS, PLAIN, most, no, yes

LITERALS = [
    (yes("p"), "p"), (no("p"), "~p"), (yes("abcdefgh"), "abcdefgh"), (no("a1234567"), "~a1234567"),
    (yes("most"), "most"), (most("x", "y", -3), "x-y<=-3"), (most("y", "x", 0), "y-x<=0"),
    (most("a1", "b2", 120), "a1-b2<=120"), (most("abcdefgh", "x", 10), "abcdefgh-x<=10"),
    (most("x", "y", HUGE), "x-y<=" + "9" * 100), (most("x", "y", -HUGE), "x-y<=-" + "9" * 100),
]
BAD_INTEGERS = ["", "-", "-0", "00", "01", "-01", "-00", "+1", "+0", "--1", "1-", "1.0", "1e3", "1_000", "a", "0x1",
                " 1", "1 ", "- 1", "1\n", "\t1", "1\t", "9" * 201, "-" + "9" * 201, "1" + "0" * 200, "0" * 200]
BAD_LITERALS = [
    "", " ", "\n", "\t", "!", "~", "~~p", "~ p", " p", "p ", "p\n", "\np", "p\t", "\tp", "P", "~P", "0p", "abcdefghi",
    "~abcdefghi", "p q", "p|q", "p | q", "yes p", "-p", "p=3", "x-y", "x-y<=", "x-y<3", "x-y=3", "x-y>=3", "x-y<= 3",
    "x-y <=3", "x -y<=3", "x- y<=3", "x - y<=3", " x-y<=3", "x-y<=3 ", "x--y<=3", "x-y<==3", "x-y<=<=3", "x-y<<=3",
    "x-x<=3", "~x-y<=3", "x-~y<=3", "-y<=3", "x-<=3", "x<=3", "<=3", "<=", "-<=3", "x-y-z<=3", "x-y<=3<=4", "X-y<=3",
    "x-1<=3", "x-abcdefghi<=3", "xy<=3", "x+y<=3", "x-y<=3\n", "x-y\n<=3", "x-y<=3 | ", "x-y<=3|p",
]
BAD_CLAUSES = [
    "", " ", "\n", "~", "p|q", "p| q", "p |q", "p  | q", "p |  q", "p | | q", "p |  | q", "p || q", " | p", "p | ",
    "p |", "| p", " | ", "|", "p | !", "! | p", "! | !", "!!", " !", "! ", "!\n", "p\n", "p\nq", "\np", "p | q\n",
    "p | q ", " p", "p\t| q", "p |\tq", "p | q\t", "p , q", "p q", "p | Q", "p | x-x<=0", "p | x-y<=-0", "p | x-y<=01",
    "~ p | q",
]
BAD_VALUES = [
    " ", "\n", "\t", "p ", " p", "p\n", "p\t", "\tp", "p\tq", "p\nq", "p  q", "x=1 ", " x=1", "x=1\n", "p  x=1",
    "x=1  y=2", "x=1\ty=2", "q p", "p p", "p q p", "y=1 x=2", "x=1 x=1", "x=1 x=2", "x=2 x=1", "x=1 p", "p x=1 q",
    "x=1 p y=2", "~p", "P", "abcdefghi", "0p", "!", "p,q", "x==1", "x=", "=1", "=", "x=y", "x =1", "x= 1", "x=1=1",
    "X=1", "x-y=1", "1=x", "abcdefghi=1", "p | q", "x-y<=3",
]


class WritingTest(unittest.TestCase):
    def test_literals(self):
        for literal, text in LITERALS:
            self.assertEqual(write_literal(literal), text)

    def test_clauses(self):
        self.assertEqual(write_clause(()), "!")
        self.assertEqual(write_clause([]), "!")
        self.assertEqual(write_clause([yes("p")]), "p")
        self.assertEqual(write_clause([yes("p"), no("q"), most("x", "y", -3)]), "x-y<=-3 | ~q | p")
        self.assertEqual(write_clause((no("p"), yes("p"), no("p"))), "~p | p")

    def test_values(self):
        for values, text in [
            (((), ()), ""), ((("p",), ()), "p"), (((), (("x", 0),)), "x=0"), ((("p", "q"), ()), "p q"),
            ((("p", "q"), (("x", -3), ("y", 12))), "p q x=-3 y=12"), (((), (("x", -HUGE),)), "x=-" + "9" * 100),
            ((("x",), (("x", 1),)), "x x=1"),
        ]:
            self.assertEqual(write_values(values), text)
            self.assertEqual(read_values(text), values)

    def test_errors(self):
        for value in NO_LITERALS:
            with self.assertRaises(InvalidLiteral) as caught:
                write_literal(value)
            self.assertIs(caught.exception.value, value)
            with self.assertRaises(InvalidLiteral) as caught:
                write_clause([yes("p"), value, None])
            self.assertIs(caught.exception.value, value)
        for value in PLAIN:
            with self.assertRaises(InvalidClause) as caught:
                write_clause(value)
            self.assertIs(caught.exception.value, value)


class ReadingTest(unittest.TestCase):
    def refused(self, reader, texts):
        for text in texts:
            with self.subTest(text=text):
                with self.assertRaises(InvalidText) as caught:
                    reader(text)
                self.assertEqual(caught.exception.line, 1)

    def test_example(self):
        self.assertEqual([read_clause("p | x-y<=-3 | p"), write_clause(())], [(most("x", "y", -3), yes("p")), "!"])

    def test_literals(self):
        for literal, text in LITERALS:
            self.assertEqual(read_literal(text), literal)
            self.assertEqual(read_clause(text), (literal,))

    def test_integers(self):
        for text in ["0", "7", "10", "-1", "-10", "1" + "0" * 199, "9" * 200, "-" + "9" * 200]:
            self.assertEqual(read_literal("x-y<=" + text), most("x", "y", int(text)))
            self.assertEqual(read_values("x=" + text), ((), (("x", int(text)),)))

    def test_wrong_integers(self):
        self.refused(read_literal, ["x-y<=" + text for text in BAD_INTEGERS])
        self.refused(read_clause, ["p | x-y<=" + text for text in BAD_INTEGERS])
        self.refused(read_values, ["x=" + text for text in BAD_INTEGERS])
        self.refused(read_values, ["p x=1 y=" + text for text in BAD_INTEGERS])

    def test_wrong_literals(self):
        self.refused(read_literal, BAD_LITERALS)
        self.refused(read_clause, [text for text in BAD_LITERALS if text not in ("!", "p | q")])
        self.refused(read_clause, ["q | " + text for text in BAD_LITERALS if text != "p | q"])

    def test_clauses(self):
        self.assertEqual(read_clause("!"), ())
        self.assertEqual(read_clause("p"), (yes("p"),))
        self.assertEqual(read_clause("~p | p"), (no("p"), yes("p")))
        self.assertEqual(read_clause("p | p | p"), (yes("p"),))
        expected = (most("x", "y", -3), most("y", "x", 2), no("p"), yes("q"))
        for order in itertools.permutations(["x-y<=-3", "y-x<=2", "~p", "q", "q"]):
            self.assertEqual(read_clause(" | ".join(order)), expected)

    def test_wrong_clauses(self):
        self.refused(read_clause, BAD_CLAUSES)

    def test_clauses_written_and_read(self):
        literals = [literal for literal, _ in LITERALS[:7]]
        for many in range(4):
            for clause in itertools.combinations(sorted(literals), many):
                self.assertEqual(read_clause(write_clause(clause)), clause)

    def test_values(self):
        self.assertEqual(read_values(""), ((), ()))
        self.assertEqual(read_values("a b9 abcdefgh=3 x=-1"), (("a", "b9"), (("abcdefgh", 3), ("x", -1))))
        self.assertEqual(read_values("x"), (("x",), ()))

    def test_wrong_values(self):
        self.refused(read_values, BAD_VALUES)


if __name__ == "__main__":
    unittest.main()

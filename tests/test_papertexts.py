"""Point 27: the texts of papers."""

import random
import unittest

from ringclause.errors import InvalidText, WrongStep
from ringclause.papers import check_paper
from ringclause.papertexts import read_paper, write_paper
from tests.samples import HUGE, most, no, yes
from tests.test_editing import WRONG_PAPERS, given
from tests.test_papers import PAPER, some_paper

P, Q = yes("p"), yes("q")
XY, YX = most("x", "y", -1), most("y", "x", 0)
TEXT = """given x-y<=-1 | p
given ~p | q
given x-y<=-1 | ~q
given y-z<=0
given z-x<=0
either x-y<=-1
ring x-y<=-1 , y-z<=0 , z-x<=0 : -1
learn x-y<=-1 : 0 : p 1 , q 2
learn x-y<=-1 | p : 0
learn ! : 6 : y-x<=0 7 , z-y<=-1 3 , x-z<=-1 4"""

# Lines that are no steps; each stands where a line may stand.
WRONG_LINES = [
    "", " ", "given", "given ", "given  p", " given p", "given p ", "given p |q", "given p| q", "given p  | q",
    "given p | ", "given | p", "given p | | q", "given ! | p", "given !!", "given !  ", "given P", "given ~~p",
    "given p,q", "given p , q", "given p : 0", "Given p", "given\tp", "given p\t", "given x-y<=01", "given x-y<=-0",
    "given x-y<= 1", "given x-y <=1", "given x-y<=+1", "given x-y<=", "given x-x<=0", "given x-y<=-", "given p\r",
    "given x-y<=" + "1" * 201, "given x-y<=-" + "1" * 201, "given abcdefghi", "givenp", "given given p",
    "either", "either ", "either !", "either p | q", "either p , q", "either  p", "either p ", "either ~",
    "either p : 0",
    "ring", "ring ", "ring : -1", "ring  : -1", "ring !  : -1", "ring x-y<=-1", "ring x-y<=-1 :", "ring x-y<=-1 : ",
    "ring x-y<=-1 :-1", "ring x-y<=-1: -1", "ring x-y<=-1  : -1", "ring x-y<=-1 :  -1", "ring x-y<=-1 : -1 ",
    "ring x-y<=-1 : -1 : -1", "ring x-y<=-1 : -0", "ring x-y<=-1 : 01", "ring x-y<=-1 : +1", "ring x-y<=-1 : one",
    "ring x-y<=-1,y-x<=0 : -1", "ring x-y<=-1 ,y-x<=0 : -1", "ring x-y<=-1, y-x<=0 : -1", "ring x-y<=-1 | y-x<=0 : -1",
    "ring x-y<=-1 ,  y-x<=0 : -1", "ring x-y<=-1 , : -1", "ring , x-y<=-1 : -1", "ring p : -1", "ring ~p : -1",
    "ring x-y<=-1 , p : -1", "ring x-y<=-1 , , y-x<=0 : -1", "ring x-y<=-1 : " + "1" * 201, "ring x-y<=-1 : -",
    "ring x-y<=-1 : -1 , 2", "rings x-y<=-1 : -1",
    "learn", "learn ", "learn p", "learn p :", "learn p : ", "learn : 0", "learn  : 0", "learn p : 00", "learn p : 01",
    "learn p : -1", "learn p : -0", "learn p : +1", "learn p :0", "learn p: 0", "learn p  : 0", "learn p : 0 ",
    "learn p :  0", "learn p : 0 :", "learn p : 0 : ", "learn p : 0 : q", "learn p : 0 : 1", "learn p : 0 : q  1",
    "learn p : 0 : q 1 ", "learn p : 0 :  q 1", "learn p : 0 : q1", "learn p : 0 : q 01", "learn p : 0 : q -1",
    "learn p : 0 : q 1,r 2", "learn p : 0 : q 1, r 2", "learn p : 0 : q 1 ,r 2", "learn p : 0 : q 1 , ",
    "learn p : 0 : q 1 , r", "learn p : 0 : , q 1", "learn p : 0 : q 1 : r 2", "learn p : 0 : 1 q", "learn p : q 1",
    "learn p : 0 : q 1 2", "learn p : 0 : q | r 1", "learn p : 0 : ! 1", "learn p : 1000000000",
    "learn p : 0 : q 1000000000", "learn p , q : 0", "learn ! | p : 0", "learn p : 0 : q one", "learn p : !",
    "learnt p : 0", "take p", "p", "!", "0", "given p | q : 0 : q 1", "either either p", "learn p : 0 0", "~p",
    "decide p", "restart",
]


class WriteTest(unittest.TestCase):
    def test_every_kind_of_line(self):
        self.assertEqual(write_paper(PAPER), TEXT)
        self.assertEqual(write_paper(list(PAPER)), TEXT)

    def test_single_lines(self):
        for paper, text in [
            ((("given", ()),), "given !"), ([("given", (P, Q))], "given p | q"), ((("either", no("p")),), "either ~p"),
            ((("either", most("x", "y", HUGE)),), f"either x-y<={HUGE}"),
            ((("ring", (XY, YX), -1),), "ring x-y<=-1 , y-x<=0 : -1"),
            ((given(P), ("learn", (P,), 0, ())), "given p\nlearn p : 0"),
        ]:
            self.assertEqual(write_paper(paper), text)
            self.assertEqual(read_paper(text), tuple(paper))

    def test_wrong_papers(self):
        for value in WRONG_PAPERS:
            with self.assertRaises(WrongStep) as caught:
                write_paper(value)
            self.assertEqual(caught.exception.index, 0)
        for index, paper in [(1, (given(P), given(Q, P))), (2, [given(P), given(Q), ("learn", (P,), 2, ()), None])]:
            with self.assertRaises(WrongStep) as caught:
                write_paper(paper)
            self.assertEqual(caught.exception.index, index)


class ReadTest(unittest.TestCase):
    def test_written_and_read(self):
        self.assertEqual(read_paper(TEXT), PAPER)
        self.assertIsInstance(read_paper(TEXT), tuple)

    def test_by_chance(self):
        chance = random.Random(27)
        for _ in range(60):
            question, paper = some_paper(chance)
            self.assertEqual(read_paper(write_paper(paper)), paper)
            self.assertEqual(check_paper(question, read_paper(write_paper(paper))), check_paper(question, paper))

    def test_clauses_in_any_order_and_with_duplicates(self):
        self.assertEqual(read_paper("given q | p | x-y<=0 | q | p"), (("given", (most("x", "y", 0), P, Q)),))
        self.assertEqual(read_paper("learn q | ~q | q : 7"), (("learn", (no("q"), Q), 7, ()),))
        self.assertEqual(read_paper("given !\nlearn ! : 0"), (("given", ()), ("learn", (), 0, ())))

    def test_what_is_not_checked(self):
        for line, step in [
            ("ring x-y<=0 , x-y<=0 : 7", ("ring", (most("x", "y", 0), most("x", "y", 0)), 7)),
            ("ring x-y<=-1 : -1", ("ring", (XY,), -1)),
            ("ring a-b<=1 , x-y<=5 : 0", ("ring", (most("a", "b", 1), most("x", "y", 5)), 0)),
            ("ring x-y<=-1 , y-x<=0 : " + "9" * 200, ("ring", (XY, YX), int("9" * 200))),
            ("ring x-y<=-1 : -" + "9" * 200, ("ring", (XY,), -int("9" * 200))),
            ("learn p : 0", ("learn", (P,), 0, ())),
            ("learn p : 999999999 : q 999999999", ("learn", (P,), 999999999, ((Q, 999999999),))),
            ("learn p : 3 : q 0 , q 0 , ~q 12", ("learn", (P,), 3, ((Q, 0), (Q, 0), (no("q"), 12)))),
            ("learn p : 5 : x-y<=-1 10", ("learn", (P,), 5, ((XY, 10),))),
            ("either x-y<=0", ("either", most("x", "y", 0))),
        ]:
            self.assertEqual(read_paper(line), (step,))
            self.assertEqual(read_paper("\n".join([line, line])), (step, step))

    def refused(self, line, text):
        with self.assertRaises(InvalidText) as caught:
            read_paper(text)
        self.assertEqual(caught.exception.line, line, text)

    def test_wrong_lines(self):
        for wrong in WRONG_LINES:
            self.refused(1, wrong)
            self.refused(1, wrong + "\ngiven p\nnothing")
            self.refused(2, "given p\n" + wrong)
            self.refused(3, "given p\neither q\n" + wrong + "\nnothing\n")

    def test_empty_lines(self):
        self.refused(1, "")
        self.refused(1, "\n")
        self.refused(1, "\ngiven p")
        self.refused(2, "given p\n")
        self.refused(11, TEXT + "\n")
        self.refused(2, "given p\n\ngiven q")

    def test_no_shorter_and_no_longer_lines(self):
        for line in TEXT.split("\n"):
            for longer in [line + " ", " " + line, line + " : 0 : p 0 : 0", line + " , ", line + "\t", line + " |"]:
                self.refused(1, longer)


if __name__ == "__main__":
    unittest.main()

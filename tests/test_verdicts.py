"""Points 43 and 44: what the classes of verdicts tell."""

import random
import unittest

from ringclause.editing import cut_paper, lift_paper
from ringclause.errors import WrongStep
from ringclause.papers import check_paper
from ringclause.papertexts import write_paper
from ringclause.questions import Question
from ringclause.verdicts import No, Verdict, Yes
from tests.samples import HUGE, most, no, yes

P, Q, NP, NQ = yes("p"), yes("q"), no("p"), no("q")
XY = most("x", "y", -1)
PAPER = (("given", (NP,)), ("given", (P,)), ("given", (Q,)), ("learn", (), 0, ((NP, 1),)))
QUESTION = Question([NP], [Q, XY])
LOG = (("put", P, ("clause", 0)), ("no", ("clause", 1)))


class VerdictTest(unittest.TestCase):
    def test_attributes(self):
        verdict = Verdict(QUESTION, (P,), LOG)
        self.assertEqual([verdict.question, verdict.suppositions, verdict.log], [QUESTION, (P,), LOG])
        self.assertIs(verdict.question, QUESTION)

    def test_word_and_lines(self):
        self.assertEqual(Verdict(QUESTION, (P,), LOG).word(), "open")
        self.assertEqual(Verdict(QUESTION, (P,), LOG).lines(), ("clauses 2, suppositions 1, deeds 2",))
        self.assertEqual(Verdict(Question(), (), ()).lines(), ("clauses 0, suppositions 0, deeds 0",))

    def test_methods_stand_in_the_classes(self):
        for kind, names in [(Verdict, ("word", "lines")), (Yes, ("word",)), (No, ("word", "lifted"))]:
            for name in names:
                self.assertIn(name, vars(kind))
        self.assertTrue(issubclass(Yes, Verdict) and issubclass(No, Verdict))


class YesTest(unittest.TestCase):
    def test_attributes_and_word(self):
        answer = (("q",), (("x", 0), ("y", 1)))
        verdict = Yes(QUESTION, (Q,), LOG, answer, (XY, NP, Q))
        self.assertEqual([verdict.question, verdict.suppositions, verdict.log], [QUESTION, (Q,), LOG])
        self.assertEqual([verdict.answer, verdict.standing, verdict.word()], [answer, (XY, NP, Q), "yes"])

    def test_lines(self):
        first = "clauses 2, suppositions 0, deeds 2"
        for answer, line in [
            (((), ()), "yes"), ((("p", "q"), ()), "yes p q"), (((), (("x", -3),)), "yes x=-3"),
            ((("p", "x"), (("x", 0), ("y", HUGE))), f"yes p x x=0 y={HUGE}"),
        ]:
            verdict = Yes(QUESTION, (), LOG, answer, ())
            self.assertEqual(verdict.lines(), (first, line))
            self.assertIsInstance(verdict.lines(), tuple)


class NoTest(unittest.TestCase):
    def test_attributes_and_word(self):
        verdict = No(QUESTION, (P, Q), LOG, PAPER, (P,))
        self.assertEqual([verdict.question, verdict.suppositions, verdict.log], [QUESTION, (P, Q), LOG])
        self.assertEqual([verdict.paper, verdict.core, verdict.word()], [PAPER, (P,), "no"])

    def test_lines(self):
        first = "clauses 2, suppositions 2, deeds 2"
        steps = ("given ~p", "given p", "given q", "learn ! : 0 : ~p 1")
        self.assertEqual("\n".join(steps), write_paper(PAPER))
        for core, line in [((), "core"), ((P,), "core p"), ((XY, NQ, P), "core x-y<=-1 , ~q , p")]:
            verdict = No(QUESTION, (P, Q), LOG, PAPER, core)
            self.assertEqual(verdict.lines(), (first, line, *steps))
        self.assertEqual(No(Question([]), (), (), (("given", ()),), ()).lines(),
                         ("clauses 1, suppositions 0, deeds 0", "core", "given !"))

    def test_lifted(self):
        verdict = No(QUESTION, (P, Q), LOG, PAPER, (P,))
        self.assertEqual(verdict.lifted(), (("given", (NP,)), ("either", P), ("learn", (NP,), 0, ((NP, 1),))))
        self.assertEqual(No(QUESTION, (P, Q), LOG, PAPER, ()).lifted(), cut_paper(PAPER))
        self.assertEqual(verdict.paper, PAPER)

    def test_lifted_by_several(self):
        question = Question([NP, NQ, XY])
        paper = (("given", (XY, NP, NQ)), ("given", (P,)), ("given", (Q,)), ("given", (most("y", "x", 0),)),
                 ("learn", (), 0, ((NP, 1), (NQ, 2), (XY, 3))))
        core = (Q, most("y", "x", 0), P)
        verdict = No(question, core, (), paper, core)
        self.assertEqual(check_paper(question, verdict.lifted()), (XY, NP, NQ))
        self.assertEqual(verdict.lifted(), cut_paper(lift_paper(paper, core)))

    def test_lifted_checks_the_paper(self):
        with self.assertRaises(WrongStep) as caught:
            No(QUESTION, (), (), (("given", (NP,)), ("given", (NP, NP))), ()).lifted()
        self.assertEqual(caught.exception.index, 1)

    def test_lifted_leaves_out_what_is_not_needed(self):
        chance = random.Random(43)
        for _ in range(20):
            extra = [("given", (yes(chance.choice("abc")),)) for _ in range(chance.randrange(4))]
            paper = (*extra, ("given", (NP,)), ("given", (P,)), ("learn", (), len(extra), ((NP, len(extra) + 1),)))
            self.assertEqual(No(QUESTION, (P,), (), paper, (P,)).lifted(),
                             (("given", (NP,)), ("either", P), ("learn", (NP,), 0, ((NP, 1),))))


if __name__ == "__main__":
    unittest.main()

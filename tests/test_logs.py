"""Points 63 and 64: logs, held against the rules and the strategy, written and read."""

import random
import unittest

from ringclause.errors import InvalidLimit, InvalidLiteral, InvalidText
from ringclause.literals import complement
from ringclause.logs import first_unplanned, first_wrong, read_log, write_log
from ringclause.machine import Machine
from ringclause.questions import Question
from ringclause.solving import solve
from ringclause.strategy import planned
from ringclause.texts import write_values
from tests.cases import ProofCase
from tests.samples import HUGE, NO_LITERALS, PLAIN, Stubborn, most, no, yes
from tests.small import dense_question, knotty_question, some_machine, some_questions, tried_deeds
from tests.test_machine import SQUARE

P, Q, R, S = yes("p"), yes("q"), yes("r"), yes("s")
NP, NQ, NR, NS = no("p"), no("q"), no("r"), no("s")
XY, YX = most("x", "y", -1), most("y", "x", 0)
DONE = solve(SQUARE).log
NO_DEEDS = [*PLAIN, (), [], ("decide",), ("decide", P, Q), ["decide", P], ("decide", "p"), ("Decide", P), ("put", P),
            ("put", P, ("clause", True)), ("put", Q, ("clause", 9)), ("restart", 1), ("yes",), ("no",), ("no", 0),
            ("yes", [(), ()]), ("learn", ("clause", 0), 0), ("learn", ("clause", 0), True, (NP,)), (P,), P,
            (Stubborn(), P), ("decide", Stubborn()), ("put", P, Stubborn()), ("no", Stubborn()), ("yes", Stubborn())]


def deeds_done(machine, log):
    """How many deeds of a log a machine allows, by doing them."""
    for index, deed in enumerate(log):
        if not machine.allows(deed):
            return index
        machine.do(deed)
    return None


def planned_deeds(question, order, log, **more):
    """The index of the first deed that is not the planned one."""
    machine = Machine(question, extra=order, **more)
    for index, deed in enumerate(log):
        if not machine.allows(deed) or planned(machine, *order) != deed:
            return index
        machine.do(deed)
    return None


class HeldTest(ProofCase):
    def test_logs_of_solve(self):
        chance = random.Random(63)
        for _ in range(80):
            question = chance.choice([some_questions, knotty_question])(chance)
            literals = [literal for atom in [*question.atoms, yes("z")] for literal in (atom, complement(atom))]
            order = [chance.choice(literals) for _ in range(chance.randrange(4))]
            pace, spread = chance.choice([(4, 2), (1, 0), (2, 1)])
            supposed = [chance.choice(literals) for _ in range(chance.randrange(2))]
            log = solve(question, *supposed, order=order, pace=pace, spread=spread).log
            whole = question & Question.units(*supposed)
            for told in [log, list(log)]:
                self.assertIsNone(first_wrong(whole, told, extra=order, pace=pace, spread=spread))
                self.assertIsNone(first_unplanned(whole, told, order=order, pace=pace, spread=spread))
            for end in range(len(log)):
                self.assertIsNone(first_wrong(whole, log[:end], extra=order, pace=pace, spread=spread))

    def test_values_of_any_kind(self):
        for value in NO_DEEDS:
            for index in range(len(DONE) + 1):
                for log in [(*DONE[:index], value, *DONE[index:]), [*DONE[:index], value]]:
                    self.assertEqual(first_wrong(SQUARE, log), index)
                    self.assertEqual(first_unplanned(SQUARE, log), index)

    def test_deeds_after_the_end(self):
        for question, log in [(SQUARE, DONE), (Question([P]), solve(Question([P])).log)]:
            for deed in [("decide", P), ("restart",), log[-1], log[0], None]:
                self.assertEqual(first_wrong(question, [*log, deed]), len(log))
                self.assertEqual(first_unplanned(question, [*log, deed]), len(log))

    def test_the_empty_log(self):
        for question in [Question(), Question([]), SQUARE]:
            for log in [(), []]:
                self.assertIsNone(first_wrong(question, log))
                self.assertIsNone(first_unplanned(question, log))

    def test_allowed_but_not_planned(self):
        question = Question([P, Q], [NP, R])
        log = (("decide", Q), ("decide", NP), ("decide", NR), ("yes", (("q",), ())))
        self.assertIsNone(first_wrong(question, log))
        self.assertEqual(first_unplanned(question, log), 0)
        self.assertEqual(first_unplanned(question, log, order=[Q]), 1)
        self.assertEqual(first_unplanned(question, log, order=(Q, NP)), 2)
        self.assertIsNone(first_unplanned(question, log, order=[Q, NP, Q, NR]))

    def test_other_values_than_the_planned_ones(self):
        question = Question([XY])
        log = solve(question).log
        for at in [1, 5]:
            bent = (*log[:-1], ("yes", ((), (("x", at), ("y", at + 1)))))
            self.assertIsNone(first_wrong(question, bent))
            self.assertEqual(first_unplanned(question, bent), len(log) - 1)

    def test_not_allowed_counts_as_another_one(self):
        # Python takes these deeds for equal to the planned ones.
        question = Question([P, Q], [P, NQ], [most("x", "y", 1)])
        log = solve(question).log
        self.assertEqual([log[0], log[-1]],
                         [("put", most("x", "y", 1), ("clause", 0)), ("yes", (("p", "q"), (("x", 0), ("y", 0))))])
        for index, deed in [(0, ("put", most("x", "y", True), ("clause", 0))),
                            (0, ("put", most("x", "y", 1), ("clause", False))),
                            (len(log) - 1, ("yes", (("p", "q"), (("x", False), ("y", 0)))))]:
            self.assertEqual(deed, log[index])
            bent = (*log[:index], deed)
            self.assertEqual([first_wrong(question, bent), first_unplanned(question, bent)], [index, index])

    def test_extra_and_order_are_needed(self):
        log = (("decide", S), ("decide", P), ("yes", (("p", "s"), ())))
        question = Question([P, Q])
        self.assertEqual(first_wrong(question, log), 0)
        self.assertEqual(first_wrong(question, log, extra=[S]), 2)
        self.assertEqual(first_unplanned(question, log), 0)
        self.assertEqual(first_unplanned(question, log, order=[S]), 2)

    def test_pace_and_spread_are_needed(self):
        question = Question(*[[yes(f"p{i}{j}") for j in range(3)] for i in range(4)],
                            *[[no(f"p{i}{k}"), no(f"p{j}{k}")] for i in range(4) for j in range(i) for k in range(3)])
        for pace, spread in [(1, 2), (1, 0), (4, 2)]:
            log = solve(question, pace=pace, spread=spread).log
            self.assertIsNone(first_wrong(question, log, pace=pace, spread=spread))
            self.assertIsNone(first_unplanned(question, log, pace=pace, spread=spread))
            index = log.index(("restart",))
            self.assertEqual(first_wrong(question, log, pace=pace + 1, spread=spread), index)
            self.assertLessEqual(first_unplanned(question, log, pace=pace + 1, spread=spread), index)
        first, second = solve(question, pace=1, spread=9).log, solve(question, pace=1, spread=0).log
        self.assertNotEqual(first, second)
        self.assertIsNotNone(first_unplanned(question, first, pace=1, spread=0))
        # What is forgotten with the spread 0 is a reason with the spread 9.
        self.assertIsNotNone(first_wrong(question, first, pace=1, spread=0))

    def test_one_bent_deed(self):
        chance = random.Random(36)
        wrong = 0
        for _ in range(150):
            question = chance.choice([dense_question, knotty_question])(chance)
            machine = some_machine(chance)
            verdict = solve(question)
            index = chance.randrange(len(verdict.log))
            pool = [*verdict.log, *tried_deeds(chance, machine), ("restart",), None]
            bent = [*verdict.log[:index], chance.choice(pool), *verdict.log[index + 1:]]
            expected = deeds_done(Machine(question), bent)
            wrong += expected is not None
            self.assertEqual(first_wrong(question, bent), expected)
            self.assertEqual(first_unplanned(question, bent), planned_deeds(question, [], bent))
        self.assertGreater(wrong, 60)

    def test_logs_are_not_changed(self):
        log = [*DONE, ("decide", P)]
        first_wrong(SQUARE, log)
        first_unplanned(SQUARE, log)
        self.assertEqual(log, [*DONE, ("decide", P)])


class HeldErrorTest(ProofCase):
    def test_literals_come_first(self):
        for value in NO_LITERALS:
            for log in [(), DONE, [None]]:
                self.raises(InvalidLiteral, value, first_wrong, SQUARE, log, extra=[P, value, None], pace=0, spread=-1)
                self.raises(InvalidLiteral, value, first_unplanned, SQUARE, log, order=(value,), pace=0, spread=-1)

    def test_then_pace_and_spread(self):
        for call in [first_wrong, first_unplanned]:
            for log in [(), [None]]:
                for value in [0, -1, True, None, "4", 4.0, Stubborn()]:
                    self.raises(InvalidLimit, value, call, SQUARE, log, pace=value, spread=-1)
                for value in [-1, False, None, "2", Stubborn()]:
                    self.raises(InvalidLimit, value, call, SQUARE, log, spread=value)


LOG = (
    ("put", P, ("clause", 0)), ("put", NQ, ("clause", 12)), ("put", XY, ("clause", 999999999)),
    ("put", most("x", "z", 3), ("chain", (XY, most("y", "z", 4)))), ("put", YX, ("chain", (YX,))),
    ("put", P, ("chain", (XY,))), ("decide", NP), ("decide", most("x", "y", -HUGE)),
    ("learn", ("clause", 3), 0, (XY, NP, Q)), ("learn", ("ring", (XY, YX)), 17, ()), ("learn", ("clause", 0), 1, (NP,)),
    ("restart",), ("yes", ((), ())), ("yes", (("p", "q"), ())), ("yes", (("p",), (("x", -3), ("y", HUGE)))),
    ("yes", ((), (("x", 0),))), ("no", ("clause", 5)), ("no", ("ring", (XY, most("y", "z", 0), most("z", "x", 0)))),
)
TEXT = f"""put p : 0
put ~q : 12
put x-y<=-1 : 999999999
put x-z<=3 : x-y<=-1 , y-z<=4
put y-x<=0 : y-x<=0
put p : x-y<=-1
decide ~p
decide x-y<=-{HUGE}
learn x-y<=-1 | ~p | q : 3 : 0
learn ! : x-y<=-1 , y-x<=0 : 17
learn ~p : 0 : 1
restart
yes
yes p q
yes p x=-3 y={HUGE}
yes x=0
no : 5
no : x-y<=-1 , y-z<=0 , z-x<=0"""

# Lines that are no deeds.
WRONG_LINES = [
    "", " ", "put", "put ", "put p", "put p :", "put p : ", "put p 0", "put p: 0", "put p :0", "put p  : 0",
    "put  p : 0", " put p : 0", "put p : 0 ", "put p :  0", "put p : 00", "put p : 01", "put p : -1", "put p : +1",
    "put p : 1000000000", "put p : 0 : 0", "put p : 0 , 1", "put p | q : 0", "put ! : 0", "put P : 0", "put : 0",
    "put p : q", "put p : ~q", "put p : x-y<=0 , q", "put p : x-y<=0 , 3", "put p : x-y<=0,y-z<=0",
    "put p : x-y<=0 , ", "put p : , x-y<=0", "put p : x-y<=0 | y-z<=0", "put p : x-y<=00", "put p : x-x<=0",
    "put p : clause 0", "put p : !", "Put p : 0", "puts p : 0", "put\tp : 0", "put p : 0\t", "put p : 0\r",
    "put x-y<=" + "1" * 201 + " : 0",
    "decide", "decide ", "decide  p", "decide p ", " decide p", "decide p | q", "decide !", "decide ~~p", "decide 0",
    "decide p : 0", "decide p q", "decides p", "decide abcdefghi", "decide x-y<=-0", "decide p,q", "Decide p",
    "learn", "learn ", "learn p", "learn p : 0", "learn p : 0 :", "learn p : 0 : ", "learn p : : 0", "learn : 0 : 0",
    "learn  : 0 : 0", "learn p : 0 : 0 : 0", "learn p : 0 : 00", "learn p : 0 : -1", "learn p : 00 : 0",
    "learn p : 0 : 1000000000", "learn p : 1000000000 : 0", "learn p : 0 : x", "learn p : q : 0", "learn p : ! : 0",
    "learn p : 0 , 1 : 0", "learn p : x-y<=0 , y-x<=-1 : ", "learn p : x-y<=0 ,y-x<=-1 : 0", "learn p,q : 0 : 0",
    "learn p |q : 0 : 0", "learn p | : 0 : 0", "learn p : 0 : 0 ", "learn p : 0: 0", "learn p :0 : 0",
    "learn P : 0 : 0",
    "learn p : 0 : x-y<=0", "learnt p : 0 : 0", " learn p : 0 : 0", "learn p : 0 : q 1",
    "restart ", " restart", "restart : 0", "restart 0", "Restart", "restarts", "re start", "restart p",
    "yes ", "yes  ", " yes", "yes  p", "yes p ", "yes P", "yes q p", "yes p p", "yes x=0 p", "yes p,q", "yes x=00",
    "yes x=-0", "yes x=", "yes x=0 x=0", "yes y=0 x=0", "yes : p", "yes p : 0", "yes ~p", "yes x-y<=0", "yesp", "Yes",
    "yes x = 0", "yes x=" + "1" * 201, "yes !",
    "no", "no ", "no :", "no : ", "no 0", "no: 0", "no  : 0", "no :0", "no :  0", "no : 0 ", " no : 0", "no : 00",
    "no : -1", "no : p", "no : !", "no : 0 : 0", "no : 0 , 1", "no : x-y<=0 ,", "no : 1000000000", "no p : 0", "No : 0",
    "no : x-y<=0 , 1", "no : x-y<=0 , ~p", "no 0 : 0", "not : 0",
    "given p", "either p", "ring x-y<=-1 , y-x<=0 : -1", "p", "0", ":", "!", " : ", "clause 0",
]


class TextTest(ProofCase):
    def test_example(self):
        self.assertEqual(read_log("decide p\nno : 3"), (("decide", ("yes", "p")), ("no", ("clause", 3))))

    def test_each_kind_of_deed(self):
        self.assertEqual(write_log(LOG), TEXT)
        self.assertEqual(write_log(list(LOG)), TEXT)
        self.assertEqual(read_log(TEXT), LOG)
        for deed, line in zip(LOG, TEXT.split("\n")):
            self.assertEqual([write_log([deed]), read_log(line)], [line, (deed,)])

    def test_the_empty_log(self):
        self.assertEqual([write_log(()), write_log([]), read_log("")], ["", "", ()])

    def test_yes_alone_and_with_values(self):
        for values in [((), ()), (("p",), ()), ((), (("x", -7),)), (("a", "b0"), (("a", 0), ("b0", HUGE)))]:
            line = write_log([("yes", values)])
            self.assertEqual(line, f"yes {write_values(values)}".strip())
            self.assertEqual(read_log(line), (("yes", values),))

    def test_clauses_in_any_order_and_with_duplicates(self):
        deed = ("learn", ("clause", 1), 2, (most("x", "y", 0), P, Q))
        for clause in ["x-y<=0 | p | q", "q | p | x-y<=0", "p | p | q | x-y<=0 | q"]:
            self.assertEqual(read_log(f"learn {clause} : 1 : 2"), (deed,))

    def test_literals_and_names_at_their_limits(self):
        for text in ["decide abcdefgh", "decide ~z9999999", "decide x-y<=" + "1" * 200, "decide x-y<=-" + "1" * 200,
                     "put p : 999999999", "learn p : 999999999 : 999999999", "no : 0", "yes x=" + "9" * 200]:
            self.assertEqual(write_log(read_log(text)), text)

    def test_results_are_tuples(self):
        deeds = read_log(TEXT)
        self.check_frozen(deeds)

    def test_wrong_lines(self):
        for line in WRONG_LINES:
            for before in range(3):
                rest = ["decide p", "", "restart"]
                for text in ["\n".join(["restart"] * before + [line]), "\n".join(["yes"] * before + [line] + rest)]:
                    if text != "":
                        self.refused(before + 1, text)

    def test_line_feeds(self):
        self.refused(1, "\n")
        self.refused(1, "\ndecide p")
        self.refused(2, "decide p\n")
        self.refused(2, "decide p\n\nrestart")
        self.refused(3, TEXT.split("\n")[0] + "\nrestart\n")
        self.refused(1, " ")

    def refused(self, number, text):
        with self.assertRaises(InvalidText) as caught:
            read_log(text)
        self.assertEqual(caught.exception.line, number)

    def test_logs_of_searches(self):
        chance = random.Random(64)
        words = set()
        for _ in range(80):
            machine = some_machine(chance)
            log = []
            while machine.state == "open":
                log.append(chance.choice([deed for deed in tried_deeds(chance, machine) if machine.allows(deed)]))
                machine.do(log[-1])
            text = write_log(log)
            self.assertEqual(read_log(text), tuple(log))
            self.assertEqual(write_log(read_log(text)), text)
            words |= {deed[0] for deed in log}
        self.assertEqual(words, {"put", "decide", "learn", "restart", "yes", "no"})


if __name__ == "__main__":
    unittest.main()

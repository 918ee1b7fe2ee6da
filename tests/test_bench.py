"""Points 65 to 67: the bench."""

import random
import unittest

from ringclause.bench import Bench
from ringclause.errors import (
    InvalidLimit, InvalidLiteral, NoPaper, NotAllowed, NothingToRedo, NothingToUndo, UnknownLiteral, UnknownNumber)
from ringclause.literals import complement
from ringclause.machine import Machine
from ringclause.questions import Question
from ringclause.solving import solve
from ringclause.strategy import planned
from tests.cases import ProofCase
from tests.samples import HUGE, NO_LITERALS, Stubborn, most, no, yes
from tests.slow import (
    clash_clause, free_literals, level_of, slow_allows, slow_asserting, slow_clashes, slow_forced, slow_resolved)
from tests.small import dense_question, knotty_question, some_questions
from tests.test_logs import NO_DEEDS
from tests.test_machine import SQUARE, at
from tests.test_strategy import slow_planned

P, Q, R, S = yes("p"), yes("q"), yes("r"), yes("s")
NP, NQ, NR, NS = no("p"), no("q"), no("r"), no("s")
XY, YX = most("x", "y", -1), most("y", "x", 0)
HOLES = Question(*[[yes(f"p{i}{j}") for j in range(3)] for i in range(4)],
                 *[[no(f"p{i}{k}"), no(f"p{j}{k}")] for i in range(4) for j in range(i) for k in range(3)])
NO_COUNTS = [True, False, -1, -HUGE, None, "2", 2.0, (2,), [2], Stubborn()]


def told_by(held):
    """What a bench and a machine both tell."""
    return held.trail, held.level, held.state, held.rank, held.limit, held.learnt, held.numbers


def all_told_by(machine):
    """All that a machine tells about its state."""
    numbers = range(len(machine.question) + len(machine.learnt))
    papers = [(machine.clause_at(number), machine.paper_of(number)) for number in numbers]
    ending = machine.refutation() if machine.state == "no" else None
    return (*told_by(machine), machine.question, machine.atoms, machine.pace, machine.spread, machine.restarts,
            machine.since, machine.clashes(), machine.forced(), papers, ending)


def slow_options(machine):
    """The deeds of point 66."""
    if machine.state != "open":
        return ()
    deeds = []
    for clash in slow_clashes(machine):
        if all(level_of(machine, literal) == 0 for literal in clash_clause(machine, clash)):
            deeds.append(("no", clash))
            continue
        steps = 0
        while slow_resolved(machine, clash, steps) is not None:
            clause = slow_resolved(machine, clash, steps)
            if slow_asserting(machine, clause):
                deeds.append(("learn", clash, steps, clause))
            steps += 1
    if deeds:
        return tuple(deeds)
    deeds = [("put", *pair) for pair in slow_forced(machine)]
    free = free_literals(machine)
    for atom in machine.atoms:
        if atom in free:
            deeds += [("decide", atom), ("decide", complement(atom))]
    if slow_allows(machine, ("restart",)):
        deeds.append(("restart",))
    if not free:
        end = Machine(machine.question, extra=machine.atoms, pace=10 ** 9)
        for literal, _, _ in machine.trail:
            end.do(("decide", literal))
        deeds.append(slow_planned(end, []))
    return tuple(deeds)


class BenchCase(ProofCase):
    def check(self, bench, *arguments, **more):
        """The bench is as a new machine that has done its log; that machine."""
        machine = Machine(*arguments, **more)
        for deed in bench.log:
            machine.do(deed)
        self.assertEqual(told_by(bench), told_by(machine))
        self.check_frozen(*told_by(bench), bench.log)
        snapshot = bench.snapshot()
        self.assertIsInstance(snapshot, Machine)
        self.assertEqual(all_told_by(snapshot), all_told_by(machine))
        self.check_options(bench, machine)
        return machine

    def check_options(self, bench, machine):
        options = bench.options()
        self.assertEqual(options, slow_options(machine))
        self.assertEqual(len(options) > 0, machine.state == "open")
        for deed in options:
            self.assertTrue(slow_allows(machine, deed))

    def nothing_changes(self, bench, error, told, call, *arguments):
        """The call raises an error, and nothing is changed, neither what is done nor what was taken back."""
        before = told_by(bench), bench.log, all_told_by(bench.snapshot()), undone_of(bench)
        self.raises(error, told, call, *arguments)
        self.assertEqual((told_by(bench), bench.log, all_told_by(bench.snapshot()), undone_of(bench)), before)


def undone_of(bench):
    """The deeds that were taken back, the last one first."""
    many = len(bench.log)
    found = []
    while True:
        try:
            bench.redo()
        except NothingToRedo:
            break
        found.append(bench.log[-1])
    while len(bench.log) > many:
        bench.undo()
    return found


class ExamplesTest(BenchCase):
    def test_a_new_bench(self):
        bench = Bench(SQUARE)
        self.assertEqual([bench.log, bench.trail, bench.level, bench.state, bench.rank], [(), (), 0, "open", 0])
        self.assertEqual([bench.limit, bench.learnt, bench.numbers], [189, (), (0, 1, 2, 3)])
        self.check(bench, SQUARE)
        self.assertIsNone(bench.do(("decide", P)))
        self.assertEqual(bench.log, (("decide", P),))

    def test_back_and_forth(self):
        bench = Bench(SQUARE)
        deeds = solve(SQUARE).log
        self.assertEqual({deed[0] for deed in deeds}, {"put", "decide", "learn", "no"})
        states = []
        for deed in deeds:
            states.append(all_told_by(self.check(bench, SQUARE)))
            bench.do(deed)
        states.append(all_told_by(self.check(bench, SQUARE)))
        for many in reversed(range(len(deeds))):
            self.assertIsNone(bench.undo())
            self.assertEqual(bench.log, deeds[:many])
            self.assertEqual(all_told_by(bench.snapshot()), states[many])
        self.raises(NothingToUndo, None, bench.undo)
        for many in range(1, len(deeds) + 1):
            self.assertIsNone(bench.redo())
            self.assertEqual(bench.log, deeds[:many])
            self.assertEqual(all_told_by(bench.snapshot()), states[many])
        self.raises(NothingToRedo, None, bench.redo)
        self.assertEqual(bench.state, "no")

    def test_nothing_to_undo_or_redo(self):
        bench = Bench(Question([P, Q]))
        self.nothing_changes(bench, NothingToUndo, None, bench.undo)
        self.nothing_changes(bench, NothingToRedo, None, bench.redo)
        bench.do(("decide", P))
        self.nothing_changes(bench, NothingToRedo, None, bench.redo)
        bench.undo()
        self.nothing_changes(bench, NothingToUndo, None, bench.undo)
        bench.redo()
        self.assertEqual(bench.log, (("decide", P),))

    def test_a_new_deed_forgets_those_taken_back(self):
        for deed in [("decide", NP), ("decide", P), ("decide", S)]:
            bench = Bench(Question([P, Q, R]), extra=[S])
            bench.run([("decide", P), ("decide", Q)])
            bench.undo()
            bench.undo()
            bench.do(deed)
            self.nothing_changes(bench, NothingToRedo, None, bench.redo)
            self.assertEqual(bench.log, (deed,))
            self.check(bench, Question([P, Q, R]), extra=[S])

    def test_deeds_that_are_not_allowed_forget_nothing(self):
        bench = Bench(SQUARE)
        bench.run([("decide", P), ("put", Q, ("clause", 1))])
        bench.undo()
        for deed in [*NO_DEEDS, ("decide", P), ("restart",), ("no", ("clause", 0)), ("yes", ((), ()))]:
            self.nothing_changes(bench, NotAllowed, deed, bench.do, deed)
        bench.redo()
        self.assertEqual(bench.log, (("decide", P), ("put", Q, ("clause", 1))))

    def test_after_the_end(self):
        for question in [SQUARE, Question([P]), Question(), Question([])]:
            bench = Bench(question)
            bench.advance(100)
            self.assertEqual(bench.options(), ())
            for deed in [("decide", P), ("restart",), bench.log[-1], None]:
                self.nothing_changes(bench, NotAllowed, deed, bench.do, deed)
            self.check(bench, question)
            bench.undo()
            self.assertEqual(bench.state, "open")
            self.check(bench, question)
            bench.redo()
            self.check(bench, question)

    def test_learnt_clauses_are_taken_back(self):
        bench = Bench(SQUARE)
        bench.advance(3)
        self.assertEqual([bench.log[-1][0], bench.learnt, bench.numbers], ["learn", ((4, (NP,), 1),), (0, 1, 2, 3, 4)])
        bench.undo()
        self.assertEqual([bench.learnt, bench.numbers], [(), (0, 1, 2, 3)])
        with self.assertRaises(UnknownNumber):
            bench.snapshot().clause_at(4)
        with self.assertRaises(NoPaper):
            bench.snapshot().refutation()
        # A number that was taken back is given again.
        bench.do(bench.options()[-1])
        self.assertEqual(bench.learnt[0][0], 4)

    def test_forgotten_clauses_come_back(self):
        bench = Bench(HOLES, pace=1, spread=0)
        forgotten = 0
        while bench.state == "open":
            before = told_by(bench)
            bench.advance(1)
            after = told_by(bench)
            if bench.log[-1] == ("restart",):
                forgotten += len(before[-1]) - len(after[-1])
                bench.undo()
                self.assertEqual(told_by(bench), before)
                self.assertEqual(bench.snapshot().restarts, bench.log.count(("restart",)))
                bench.redo()
            self.assertEqual(told_by(bench), after)
        self.assertGreater(forgotten, 2)
        self.check(bench, HOLES, pace=1, spread=0)
        log = bench.log
        while bench.log:
            bench.undo()
        self.check(bench, HOLES, pace=1, spread=0)
        for _ in log:
            bench.redo()
        self.assertEqual(bench.log, log)
        self.check(bench, HOLES, pace=1, spread=0)

    def test_arguments(self):
        extra = [NS, XY]
        bench = Bench(Question([P]), extra=extra, pace=1, spread=0)
        extra.append(R)
        machine = bench.snapshot()
        self.assertEqual([machine.atoms, machine.pace, machine.spread], [(XY, P, S), 1, 0])
        self.check(bench, Question([P]), extra=(S, XY), pace=1, spread=0)
        usual = Bench(Question()).snapshot()
        self.assertEqual([usual.pace, usual.spread, usual.question], [4, 2, Question()])

    def test_a_snapshot_and_the_bench_do_not_touch_each_other(self):
        bench = Bench(SQUARE)
        bench.advance(4)
        machine = bench.snapshot()
        before = all_told_by(machine)
        bench.advance(9)
        bench.undo()
        self.assertEqual(all_told_by(machine), before)
        told = told_by(bench), bench.log, all_told_by(bench.snapshot())
        while machine.state == "open":
            machine.do(planned(machine))
        self.assertEqual((told_by(bench), bench.log, all_told_by(bench.snapshot())), told)
        bench.redo()
        other = bench.snapshot()
        self.assertIsNot(other, bench.snapshot())
        while bench.log:
            bench.undo()
        self.assertEqual(other.state, "no")
        self.check(bench, SQUARE)

    def test_wrong_arguments(self):
        for value in NO_LITERALS:
            self.raises(InvalidLiteral, value, Bench, SQUARE, extra=[P, value, None], pace=0, spread=-1)
        for value in [0, -1, True, False, None, "4", Stubborn()]:
            self.raises(InvalidLimit, value, Bench, SQUARE, pace=value, spread=-1)
        for value in [-1, True, False, None, "2", Stubborn()]:
            self.raises(InvalidLimit, value, Bench, SQUARE, spread=value)


class OptionsTest(BenchCase):
    def test_at_the_beginning(self):
        bench = Bench(Question([P], [NP, Q, R]), extra=[XY])
        self.assertEqual(bench.options(), (("put", P, ("clause", 1)), ("decide", XY), ("decide", YX), ("decide", P),
                                           ("decide", NP), ("decide", Q), ("decide", NQ), ("decide", R),
                                           ("decide", NR)))

    def test_with_a_clash(self):
        question = Question([NP, R], [NP, NR, Q], [NP, NR, NQ])
        bench = Bench(question)
        bench.run([("decide", P), ("decide", R), ("put", Q, at(question, NP, NR, Q))])
        clash = at(question, NP, NR, NQ)
        # Without a step the clause has two literals of the greatest level, with one step it has one.
        self.assertEqual(bench.options(), (("learn", clash, 1, (NP, NR)),))
        self.check(bench, question)

    def test_with_several_clashes(self):
        question = Question([P, S], [NQ, NS], [P])
        bench = Bench(question)
        bench.run([("decide", NS), ("decide", NP)])
        self.assertEqual(bench.options(),
                         (("learn", at(question, P), 0, (P,)), ("learn", at(question, P, S), 0, (P, S))))
        question = Question([P], [NP], [NP, Q], [NQ])
        bench = Bench(question)
        bench.run([("put", P, at(question, P))])
        bench.do(("no", at(question, NP)))
        self.assertEqual(bench.options(), ())
        bench.undo()
        self.assertEqual(bench.options(), (("no", at(question, NP)),))

    def test_where_a_restart_is_allowed(self):
        question = Question([NP, Q], [NP, NQ], [NR, S])
        bench = Bench(question, pace=1)
        bench.run([("decide", P), ("put", Q, at(question, NP, Q)), ("learn", at(question, NP, NQ), 1, (NP,)),
                   ("decide", R)])
        self.assertEqual(bench.options(), (("put", S, at(question, NR, S)), ("decide", Q), ("decide", NQ),
                                           ("decide", S), ("decide", NS), ("restart",)))
        bench.run([("put", S, at(question, NR, S)), ("decide", NQ)])
        self.assertEqual(bench.options(), (("restart",), ("yes", (("r", "s"), ()))))

    def test_at_the_end_of_a_trail(self):
        bench = Bench(Question([XY, P]), extra=[most("y", "z", -2)])
        bench.run([("decide", XY), ("decide", most("y", "z", -2)), ("decide", NP)])
        self.assertEqual(bench.options(), (("yes", ((), (("x", 0), ("y", 1), ("z", 3)))),))
        self.assertEqual(Bench(Question()).options(), (("yes", ((), ())),))
        self.assertEqual(Bench(Question([])).options(), (("no", ("clause", 0)),))

    def test_runs_of_options(self):
        chance = random.Random(66)
        words = set()
        for _ in range(120):
            question = chance.choice([some_questions, knotty_question])(chance)
            more = {"extra": [S, most("x", "z", 1)][:chance.randrange(3)], "pace": chance.randrange(1, 4),
                    "spread": chance.randrange(3)}
            bench = Bench(question, **more)
            while bench.state == "open":
                self.check(bench, question, **more)
                deed = chance.choice(bench.options())
                words.add(deed[0])
                bench.do(deed)
            self.check(bench, question, **more)
        self.assertEqual(words, {"put", "decide", "learn", "restart", "yes", "no"})


class AdvanceTest(BenchCase):
    def test_some_and_too_many(self):
        log = solve(SQUARE).log
        for count in range(len(log) + 1):
            bench = Bench(SQUARE)
            self.assertEqual(bench.advance(count), count)
            self.assertEqual(bench.log, log[:count])
            self.check(bench, SQUARE)
        for count in [len(log) + 1, 1000, HUGE]:
            bench = Bench(SQUARE)
            self.assertEqual([bench.advance(count), bench.log], [len(log), log])
            self.assertEqual(bench.advance(count), 0)

    def test_orders(self):
        question = Question([P, Q, R])
        for order in [(), (NQ,), (NR, NQ, R, NP)]:
            bench = Bench(question)
            bench.advance(HUGE, *order)
            self.assertEqual(bench.log, solve(question, order=order).log)
        bench = Bench(question)
        bench.advance(1, NQ)
        bench.advance(1, NP)
        bench.advance(9, NR)
        self.assertEqual(bench.log, (("decide", NQ), ("decide", NP), ("put", R, ("clause", 0)), ("yes", (("r",), ()))))

    def test_no_deed_forgets_nothing(self):
        bench = Bench(SQUARE)
        bench.advance(3)
        bench.undo()
        self.assertEqual(bench.advance(0), 0)
        self.assertIsNone(bench.run([]))
        self.assertIsNone(bench.run(()))
        bench.redo()
        self.assertEqual(len(bench.log), 3)
        bench.undo()
        self.assertEqual(bench.advance(1), 1)
        self.nothing_changes(bench, NothingToRedo, None, bench.redo)
        # At the end nothing is done either.
        bench.advance(99)
        bench.undo()
        bench.redo()
        self.assertEqual(bench.advance(5), 0)

    def test_undone_deed_by_deed(self):
        log = solve(HOLES).log
        bench = Bench(HOLES)
        bench.advance(10)
        bench.advance(len(log))
        for many in reversed(range(len(log))):
            bench.undo()
            self.assertEqual(bench.log, log[:many])
        self.check(bench, HOLES)

    def test_unknown_literals_at_the_call(self):
        benches = [Bench(SQUARE, extra=[S]), Bench(Question([]), extra=[P, S]), Bench(Question(), extra=[P, S])]
        benches[0].advance(2)
        for bench in benches[1:]:
            bench.advance(9)
            self.assertNotEqual(bench.state, "open")
        benches[2].undo()
        for bench in benches:
            for value in [R, XY, *NO_LITERALS]:
                for count in [0, 1, HUGE]:
                    for order in [(value,), (P, NS, value, None)]:
                        self.nothing_changes(bench, UnknownLiteral, value, bench.advance, count, *order)

    def test_the_limit_comes_first(self):
        bench = Bench(SQUARE)
        bench.advance(2)
        bench.undo()
        for value in NO_COUNTS:
            for order in [(), (P,), (None,), (XY, R)]:
                self.nothing_changes(bench, InvalidLimit, value, bench.advance, value, *order)
        bench.advance(99)
        for value in NO_COUNTS:
            self.nothing_changes(bench, InvalidLimit, value, bench.advance, value, None)


class RunTest(BenchCase):
    def test_all(self):
        log = solve(HOLES).log
        for deeds in [log, list(log)]:
            bench = Bench(HOLES)
            self.assertIsNone(bench.run(deeds))
            self.assertEqual(bench.log, log)
            self.check(bench, HOLES)
        for many in reversed(range(len(log))):
            bench.undo()
            self.assertEqual(bench.log, log[:many])
        for deed in log:
            bench.redo()
            self.assertEqual(bench.log[-1], deed)

    def test_a_run_forgets_those_taken_back(self):
        bench = Bench(Question([P, Q, R]))
        bench.run([("decide", P), ("decide", Q)])
        bench.undo()
        bench.run([("decide", Q)])
        self.nothing_changes(bench, NothingToRedo, None, bench.redo)

    def test_none(self):
        log = solve(SQUARE).log
        for start in [0, 2, 4]:
            for value in [*NO_DEEDS, ("decide", R), ("restart",)]:
                for place in range(start, len(log) + 1):
                    bench = Bench(SQUARE)
                    bench.run(log[:start + 1])
                    bench.undo()
                    deeds = [*log[start:place], value, *log[place:], None]
                    self.nothing_changes(bench, NotAllowed, value, bench.run, deeds)
            self.check(bench, SQUARE)

    def test_the_first_deed_that_is_not_allowed(self):
        bench = Bench(Question([P, Q]))
        wrong = ("decide", R)
        self.nothing_changes(bench, NotAllowed, wrong, bench.run, [("decide", P), wrong, ("decide", P), None])

    def test_deeds_are_copied(self):
        deeds = [("decide", P), ("decide", Q)]
        bench = Bench(Question([P, Q]))
        bench.run(deeds)
        deeds.append(None)
        self.assertEqual(bench.log, (("decide", P), ("decide", Q)))


class ChanceTest(BenchCase):
    def step(self, chance, bench):
        """Do something with the bench; the words tell what."""
        kind = chance.choice(["do", "do", "do", "undo", "redo", "advance", "run", "wrong", "nothing"])
        if kind == "do" and bench.state == "open":
            bench.do(chance.choice(bench.options()))
        elif kind == "undo" and bench.log:
            for _ in range(min(len(bench.log), chance.choice([1, 1, 2, 5]))):
                bench.undo()
        elif kind == "redo" and undone_of(bench):
            bench.redo()
        elif kind == "advance":
            before = len(bench.log)
            done = bench.advance(chance.randrange(4))
            self.assertEqual(len(bench.log), before + done)
        elif kind == "run":
            machine, deeds = bench.snapshot(), []
            while machine.state == "open" and len(deeds) < 3:
                deeds.append(planned(machine) if deeds else chance.choice(bench.options()))
                machine.do(deeds[-1])
            bench.run(deeds)
        elif kind == "wrong":
            deeds = [*bench.options()[:1], ("restart", 0)]
            self.nothing_changes(bench, NotAllowed, deeds[-1], bench.run, deeds)
        elif kind == "nothing":
            bench.run([])
            bench.advance(0)

    def test_against_a_list_of_deeds(self):
        chance = random.Random(65)
        words = set()
        for _ in range(60):
            question = chance.choice([dense_question, knotty_question, some_questions])(chance)
            more = {"pace": chance.randrange(1, 3), "spread": chance.randrange(2)}
            bench = Bench(question, **more)
            for _ in range(chance.randrange(10, 40)):
                before, undone = bench.log, undone_of(bench)
                self.step(chance, bench)
                words |= {deed[0] for deed in bench.log}
                if bench.log == before:
                    self.assertEqual(undone_of(bench), undone)
                elif bench.log[:len(before)] == before and bench.log[len(before):] != tuple(undone[:1]):
                    self.assertEqual(undone_of(bench), [])
                elif bench.log == before[:len(bench.log)]:
                    self.assertEqual(undone_of(bench), [*before[len(bench.log):], *undone])
            self.check(bench, question, **more)
        self.assertEqual(words, {"put", "decide", "learn", "restart", "yes", "no"})


if __name__ == "__main__":
    unittest.main()

"""Points 38 and 39: the planned deed and the preferred list."""

import random
import unittest

from ringclause.errors import UnknownLiteral
from ringclause.literals import complement
from ringclause.machine import Machine
from ringclause.questions import Question
from ringclause.strategy import planned, preferred
from tests.samples import NO_LITERALS, most, no, yes
from tests.slow import (
    clash_clause, free_literals, level_of, raised_times, slow_allows, slow_asserting, slow_clashes, slow_forced,
    slow_preferred, slow_resolved, state_of, true_bounds, true_literals)
from tests.small import some_machine, tried_deeds
from tests.test_machine import ANY, NOT_BOTH, SQUARE, at, chain, clause, machine_after, ring

P, Q, R, S = yes("p"), yes("q"), yes("r"), yes("s")
NP, NQ, NR, NS = no("p"), no("q"), no("r"), no("s")
XY, YX = most("x", "y", -1), most("y", "x", 0)


def slow_planned(machine, order):
    """The deed that point 38 tells."""
    if machine.state != "open":
        return None
    if slow_clashes(machine):
        clash = slow_clashes(machine)[0]
        if all(level_of(machine, literal) == 0 for literal in clash_clause(machine, clash)):
            return ("no", clash)
        steps = 0
        while not slow_asserting(machine, slow_resolved(machine, clash, steps)):
            steps += 1
        return ("learn", clash, steps, slow_resolved(machine, clash, steps))
    if slow_allows(machine, ("restart",)):
        return ("restart",)
    if slow_forced(machine):
        return ("put", *slow_forced(machine)[0])
    free = free_literals(machine)
    if not free:
        moments = {name for bound in true_bounds(machine) for name in bound[1:3]}
        times = raised_times(true_bounds(machine), sorted(moments))
        names = sorted(literal[1] for literal in true_literals(machine) if literal[0] == "yes")
        return ("yes", (tuple(names), tuple(times.items())))
    return ("decide", [literal for literal in slow_preferred(machine.atoms, order) if literal in free][0])


class PlannedTest(unittest.TestCase):
    def same(self, machine, deed, *order):
        before = state_of(machine), machine.rank, machine.clashes(), machine.forced()
        self.assertEqual(planned(machine, *order), deed)
        self.assertEqual((state_of(machine), machine.rank, machine.clashes(), machine.forced()), before)

    def test_no(self):
        machine = machine_after(Question([P], [NP], [NP, Q]), ("put", P, clause(2)))
        self.same(machine, ("no", clause(0)))
        self.same(machine, ("no", clause(0)), Q)
        self.same(Machine(Question([], [P])), ("no", clause(0)))

    def test_learn_with_the_least_steps(self):
        machine = machine_after(SQUARE, ("decide", P), ("put", Q, clause(1)))
        self.same(machine, ("learn", clause(NOT_BOTH), 1, (NP,)))
        machine = machine_after(SQUARE, ("decide", NP), ("decide", NQ))
        self.same(machine, ("learn", clause(ANY), 0, (P, Q)))
        # Three numbers of steps are asserting.
        question = Question([NP, R], [NP, NR, Q], [NP, NR, NQ])
        machine = machine_after(question, ("decide", P), ("decide", R), ("put", Q, at(question, NP, NR, Q)))
        self.same(machine, ("learn", clause(0), 1, (NP, NR)))

    def test_the_first_of_several_clashes(self):
        question = Question([NP, NQ], [NQ, NR], [NQ, R])
        machine = machine_after(question, ("decide", P), ("decide", NR), ("decide", Q))
        self.assertEqual(len(machine.clashes()), 2)
        self.same(machine, ("learn", at(question, NP, NQ), 0, (NP, NQ)))
        # The first clash has a literal above level 0, though the second one has not.
        question = Question([P, S], [NQ, NS], [P])
        machine = machine_after(question, ("decide", NS), ("decide", NP))
        self.assertEqual(machine.clashes(), (at(question, P), at(question, P, S)))
        self.same(machine, ("learn", at(question, P), 0, (P,)))

    def test_a_ring(self):
        machine = machine_after(Question([XY, P], [YX, P]), ("decide", XY))
        self.assertEqual(machine.truth_of(most("x", "y", -1)), "true")
        bounds = [most("x", "y", -1), most("y", "z", -1), most("z", "x", 1)]
        machine = machine_after(Question(), *[("decide", bound) for bound in bounds], extra=bounds)
        clash = ring(bounds[2], bounds[0], bounds[1])
        self.same(machine, ("learn", clash, 0, tuple(sorted(complement(bound) for bound in bounds))))

    def test_restart_before_put(self):
        question = Question([NP, Q], [NP, NQ], [NR, S])
        machine = machine_after(question, ("decide", P), ("put", Q, at(question, NP, Q)),
                                ("learn", at(question, NP, NQ), 1, (NP,)), ("decide", R), pace=1)
        self.assertEqual(machine.forced(), ((S, at(question, NR, S)),))
        self.same(machine, ("restart",))
        machine.do(("put", S, at(question, NR, S)))
        self.same(machine, ("restart",))
        machine.do(("restart",))
        self.same(machine, ("decide", Q))

    def test_a_clash_before_a_restart(self):
        question = Question([NP, Q], [NP, NQ], [NR, S])
        machine = machine_after(question, ("decide", P), ("put", Q, at(question, NP, Q)),
                                ("learn", at(question, NP, NQ), 1, (NP,)), ("decide", R), ("decide", NS), pace=1)
        self.same(machine, ("learn", at(question, NR, S), 0, (NR, S)))

    def test_put_the_first_forced(self):
        machine = Machine(Question([P], [NP], [Q]))
        self.same(machine, ("put", NP, clause(0)), NQ)
        bounds = [most("x", "y", 0), most("x", "y", 3), most("x", "y", 2)]
        machine = machine_after(Question(), ("decide", bounds[0]), extra=bounds)
        self.same(machine, ("put", bounds[2], chain(bounds[0])), bounds[1])

    def test_yes_with_the_least_values(self):
        literals = [most("x", "y", -3), most("z", "y", -1), most("y", "x", 9), Q, NP]
        machine = machine_after(Question(), *[("decide", literal) for literal in literals], extra=literals)
        self.same(machine, ("yes", (("q",), (("x", 0), ("y", 3), ("z", 0)))))
        self.same(machine, ("yes", (("q",), (("x", 0), ("y", 3), ("z", 0)))), P, NP)
        self.same(Machine(Question()), ("yes", ((), ())))

    def test_restart_before_yes(self):
        question = Question([NP, Q], [NP, NQ])
        machine = machine_after(question, ("decide", P), ("put", Q, at(question, NP, Q)),
                                ("learn", clause(0), 1, (NP,)), ("decide", NQ), pace=1)
        self.assertEqual(len(machine.trail), len(machine.atoms))
        self.same(machine, ("restart",))
        machine.do(("restart",))
        machine.do(("decide", NQ))
        self.same(machine, ("yes", ((), ())))

    def test_decide(self):
        machine = Machine(Question([P, Q, XY, YX]), extra=[S])
        self.same(machine, ("decide", most("x", "y", -1)))
        for order, first in [([Q, P], Q), ([NP], NP), ([YX, XY], YX), ([NS, S], NS), ([S, NS], S)]:
            self.same(machine, ("decide", first), *order)
        machine.do(("decide", NQ))
        self.same(machine, ("decide", NP), Q, NQ, NP, P)
        self.same(machine, ("decide", most("x", "y", -1)), Q)
        machine.do(("decide", XY))
        self.same(machine, ("decide", P), XY, NQ)
        machine.do(("decide", NP))
        self.same(machine, ("decide", S))

    def test_nothing_at_the_end(self):
        ended = [machine_after(Question([P], [NP]), ("put", P, clause(1)), ("no", clause(0))),
                 machine_after(Question([P]), ("decide", P), ("yes", (("p",), ())))]
        for machine in ended:
            self.same(machine, None)
            self.same(machine, None, P, NP)

    def test_unknown_literals_come_first(self):
        open_machine = Machine(Question([P, XY]), extra=[S])
        ended = machine_after(Question([P], [NP]), ("put", P, clause(1)), ("no", clause(0)), extra=[XY, S])
        at_clash = machine_after(Question([P], [NP]), ("put", P, clause(1)), extra=[XY, S])
        for machine in [open_machine, ended, at_clash]:
            for value in [R, NQ, most("x", "y", 0), most("y", "z", 0), *NO_LITERALS]:
                for order in [(value,), (NP, YX, S, value, Q), (value, None, Q)]:
                    with self.assertRaises(UnknownLiteral) as caught:
                        planned(machine, *order)
                    self.assertIs(caught.exception.literal, value)

    def test_against_the_rule(self):
        chance = random.Random(39)
        words = set()
        for _ in range(120):
            machine = some_machine(chance)
            while machine.state == "open":
                order = [chance.choice([atom, complement(atom)]) for atom in machine.atoms]
                order = chance.sample(order * 2, chance.randrange(2 * len(order) + 1))
                deed = slow_planned(machine, order)
                self.same(machine, deed, *order)
                words.add(deed[0])
                if chance.random() < 0.5:
                    deed = chance.choice([other for other in tried_deeds(chance, machine) if machine.allows(other)])
                machine.do(deed)
            self.same(machine, None)
        self.assertEqual(words, {"put", "decide", "learn", "restart", "yes", "no"})


class PreferredTest(unittest.TestCase):
    def test_duplicates_and_opposed_literals(self):
        atoms = (P, Q, R)
        for order, expected in [
            ([], (P, Q, R)), ((), (P, Q, R)), ([R], (R, P, Q)), ([NR, R, Q], (NR, Q, P)), ([Q, NQ, Q], (Q, P, R)),
            ((NQ, NP, P, R, NR), (NQ, NP, R)), ([P, P, P], (P, Q, R)),
        ]:
            self.assertEqual(preferred(atoms, order), expected)
            self.assertIsInstance(preferred(atoms, order), tuple)

    def test_bounds(self):
        atoms = (most("x", "y", -1), most("x", "y", 4), P)
        self.assertEqual(preferred(atoms, [NP, YX]), (NP, YX, most("x", "y", 4)))
        self.assertEqual(preferred(atoms, [YX, XY]), (YX, most("x", "y", 4), P))

    def test_literals_of_other_atoms_stay(self):
        self.assertEqual(preferred((P, Q), [S, NQ, most("y", "x", 3), NS]), (S, NQ, most("y", "x", 3), P))
        self.assertEqual(preferred((), [NS, S]), (NS,))
        self.assertEqual(preferred((), []), ())

    def test_arguments_are_not_changed(self):
        order = [NQ, Q, P]
        preferred((P, Q), order)
        self.assertEqual(order, [NQ, Q, P])

    def test_against_the_definition(self):
        chance = random.Random(40)
        literals = [literal for name in "pqrst" for literal in (yes(name), no(name))]
        for _ in range(100):
            atoms = tuple(sorted(yes(name) for name in chance.sample("pqrst", chance.randrange(6))))
            order = [chance.choice(literals) for _ in range(chance.randrange(7))]
            self.assertEqual(preferred(atoms, order), tuple(slow_preferred(atoms, order)))


if __name__ == "__main__":
    unittest.main()

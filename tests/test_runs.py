"""Points 29 to 37: machines led by chance, held against the definitions after each deed."""

import random
import unittest

from ringclause.errors import NoPaper, NotAllowed
from ringclause.literals import atom_of, clause_holds
from ringclause.machine import Machine
from ringclause.papers import check_paper, clauses_of
from ringclause.questions import Question
from ringclause.strategy import planned
from tests.samples import most, yes
from tests.small import some_machine, tried_deeds
from tests.slow import (
    slow_allows, slow_asserting, slow_clashes, slow_forced, slow_rank, slow_resolved, slow_standings, slow_verdict,
    state_after, state_of, true_literals)
from tests.test_editing import steps_needed


class RunCase(unittest.TestCase):
    def check_state(self, machine):
        """What follows from the state is as the definitions tell."""
        self.assertEqual(machine.clashes(), slow_clashes(machine))
        self.assertEqual(machine.forced(), slow_forced(machine))
        self.assertEqual((machine.rank, machine.limit), slow_rank(machine))
        self.assertLess(machine.rank, machine.limit)
        decided = 0
        for literal, level, reason in machine.trail:
            decided += reason == ("decided",)
            self.assertEqual(level, decided)
            self.assertEqual(machine.truth_of(literal), "true")
        self.assertEqual(machine.level, decided)
        atoms = [atom_of(literal) for literal in true_literals(machine)]
        self.assertEqual(len(set(atoms)), len(atoms))

    def check_deeds(self, machine, deeds):
        """The machine allows what the definitions allow; at least one deed while it is open."""
        allowed = []
        for deed in deeds:
            right = slow_allows(machine, deed)
            self.assertIs(machine.allows(deed), right, deed)
            if right:
                allowed.append(deed)
            else:
                before = state_of(machine), machine.rank, machine.clashes(), machine.forced()
                with self.assertRaises(NotAllowed) as caught:
                    machine.do(deed)
                self.assertIs(caught.exception.deed, deed)
                self.assertEqual((state_of(machine), machine.rank, machine.clashes(), machine.forced()), before)
        self.assertEqual(bool(allowed), machine.state == "open")
        return allowed

    def do_and_check(self, machine, deed):
        expected = state_after(machine, deed)
        rank = machine.rank
        self.assertIsNone(machine.do(deed))
        self.assertEqual(state_of(machine), expected)
        if machine.state == "open":
            self.assertGreater(machine.rank, rank)
        else:
            self.assertEqual(machine.rank, rank)
        self.check_state(machine)

    def check_learnt(self, machine):
        """The learnt clauses hold under all answers, and their papers are right, cut, and made as point 37 says."""
        answers = [values for _, values in slow_standings(machine.question, machine.atoms)]
        for number, clause, _ in machine.learnt:
            self.assertEqual(machine.clause_at(number), clause)
            self.assertTrue(all(clause_holds(clause, values) for values in answers))
            self.check_paper_for(machine, machine.paper_of(number), clause)

    def check_paper_for(self, machine, paper, clause):
        self.assertEqual(check_paper(machine.question, paper), clause)
        self.assertEqual(steps_needed(paper, len(paper) - 1), list(range(len(paper))))
        self.assertTrue(all(step[0] in ("given", "ring", "learn") for step in paper))
        learnt = [clause for _, clause, _ in machine.learnt]
        self.assertTrue(all(step[1] in learnt for step in paper[:-1] if step[0] == "learn"))

    def check_end(self, machine):
        expected = slow_verdict(machine.question, machine.atoms)
        self.assertEqual(machine.state, "no" if expected is None else "yes")
        if expected is None:
            self.check_paper_for(machine, machine.refutation(), ())
        else:
            self.assertRaises(NoPaper, machine.refutation)


class ChanceTest(RunCase):
    def run_of(self, chance, machine):
        self.check_state(machine)
        deeds = []
        while machine.state == "open":
            allowed = self.check_deeds(machine, tried_deeds(chance, machine))
            # Ends are seldom taken at once, so that the runs grow long.
            going_on = [deed for deed in allowed if deed[0] not in ("yes", "no")]
            deed = chance.choice(going_on if going_on and chance.random() < 0.8 else allowed)
            self.do_and_check(machine, deed)
            deeds.append(deed)
            if machine.state == "open":
                self.assertRaises(NoPaper, machine.refutation)
        self.check_deeds(machine, deeds[-3:] + tried_deeds(chance, machine))
        return deeds

    def test_runs_by_chance(self):
        chance = random.Random(34)
        words = []
        for _ in range(250):
            machine = some_machine(chance)
            words += [deed[0] for deed in self.run_of(chance, machine)]
            self.check_learnt(machine)
            self.check_end(machine)
        # The runs have enough deeds of each kind to tell something.
        for word, least in [("put", 300), ("decide", 300), ("learn", 100), ("restart", 10), ("yes", 50), ("no", 20)]:
            self.assertGreater(words.count(word), least, word)

    def test_runs_that_decide_only(self):
        chance = random.Random(36)
        for _ in range(80):
            machine = some_machine(chance)
            while machine.state == "open":
                allowed = [deed for deed in tried_deeds(chance, machine) if machine.allows(deed)]
                wished = [deed for deed in allowed if deed[0] != "put"]
                machine.do(chance.choice(wished))
                self.check_state(machine)
            self.check_learnt(machine)
            self.check_end(machine)

    def test_every_number_of_steps(self):
        chance = random.Random(33)
        seen = set()
        for _ in range(300):
            machine = some_machine(chance)
            while machine.state == "open":
                for clash in machine.clashes():
                    steps = 0
                    while slow_resolved(machine, clash, steps) is not None:
                        clause = slow_resolved(machine, clash, steps)
                        self.assertEqual(machine.resolved(clash, steps), clause)
                        asserting = slow_asserting(machine, clause)
                        self.assertIs(machine.is_asserting(clause), asserting)
                        self.assertIs(machine.allows(("learn", clash, steps, clause)), asserting)
                        seen.add((clash[0], steps, asserting))
                        steps += 1
                    for more in [steps, steps + 1, steps + 10 ** 30]:
                        self.assertIsNone(machine.resolved(clash, more))
                allowed = [deed for deed in tried_deeds(chance, machine) if machine.allows(deed)]
                machine.do(chance.choice(allowed))
        for word, steps in [("clause", 0), ("clause", 1), ("clause", 2), ("ring", 0), ("ring", 1)]:
            self.assertLessEqual({(word, steps, True), (word, steps, False)}, seen)

    def test_planned_runs(self):
        chance = random.Random(38)
        for _ in range(60):
            machine = some_machine(chance)
            deed = planned(machine)
            while deed is not None:
                self.assertTrue(slow_allows(machine, deed))
                self.do_and_check(machine, deed)
                deed = planned(machine)
            self.check_learnt(machine)
            self.check_end(machine)


class FarTest(RunCase):
    def test_a_longer_search(self):
        names = [(i, j) for i in range(4) for j in range(3)]
        holes = [[yes(f"p{i}{j}") for j in range(3)] for i in range(4)]
        pairs = [[("no", f"p{i}{k}"), ("no", f"p{j}{k}")] for i, k in names for j in range(i)]
        machine = Machine(Question(*holes, *pairs), pace=1, spread=1)
        while machine.state == "open":
            machine.do(planned(machine))
            self.assertLess(machine.rank, machine.limit)
        self.assertEqual(machine.state, "no")
        self.assertGreater(machine.restarts, 1)
        self.assertLess(len(machine.numbers), len(machine.question) + len(machine.learnt))
        for number, clause, _ in machine.learnt:
            self.check_paper_for(machine, machine.paper_of(number), clause)
        self.check_paper_for(machine, machine.refutation(), ())

    def test_bounds_of_a_hundred_digits(self):
        huge = 10 ** 99
        question = Question([most("x", "y", -huge), yes("p")], [most("y", "x", huge - 1)], [("no", "p"), yes("q")],
                            [("no", "q"), most("z", "x", -huge)], [most("x", "z", huge - 1)])
        machine = Machine(question)
        while machine.state == "open":
            machine.do(planned(machine))
        self.assertEqual(machine.state, "no")
        paper = machine.refutation()
        self.assertEqual(clauses_of(paper)[-1], ())
        self.check_paper_for(machine, paper, ())


if __name__ == "__main__":
    unittest.main()

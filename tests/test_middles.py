"""Points 59 and 60: middles."""

import itertools
import random
import unittest

from ringclause.errors import HasAnswer, UnknownMoment, WrongStep
from ringclause.literals import complement, holds
from ringclause.middles import Middle, between, middle_of
from ringclause.papers import check_paper, clauses_of
from ringclause.questions import Question
from ringclause.solving import solve
from tests.cases import ProofCase
from tests.samples import HUGE, PLAIN, most, no, yes
from tests.small import some_atoms
from tests.test_editing import WRONG_PAPERS, given

P, Q, R, S = yes("p"), yes("q"), yes("r"), yes("s")
NP, NQ, NR, NS = no("p"), no("q"), no("r"), no("s")


def learn(clause, first, *rows):
    return ("learn", tuple(clause), first, rows)


def ring(*bounds):
    return ("ring", bounds, sum(bound[3] for bound in bounds))


def grid(first, second, top=3):
    """Values of all names of two questions, with small integers."""
    both = first & second
    for flags in itertools.product([False, True], repeat=len(both.truths)):
        names = tuple(name for name, flag in zip(both.truths, flags) if flag)
        for integers in itertools.product(range(top + 1), repeat=len(both.moments)):
            yield names, tuple(zip(both.moments, integers))


def is_about(question, literal):
    if literal[0] == "most":
        return {literal[1], literal[2]} <= set(question.moments)
    return literal[1] in question.truths


def is_outer(first, second, literal):
    return not is_about(second, literal) and is_about(first, literal)


def slow_runs(bounds, outer):
    """The longest runs of outer bounds of a ring that has an inner one, by going twice round it."""
    start = [place for place, bound in enumerate(bounds) if not outer(bound)][0]
    turned = [*bounds[start:], *bounds[:start]]
    return [list(run) for is_run, run in itertools.groupby(turned, outer) if is_run]


def slow_value(first, second, paper, values):
    """The truth value of the formula of the last step, worked out step by step."""
    def outer(literal):
        return is_outer(first, second, literal)

    found = []
    for word, *parts in paper:
        if word == "given":
            inner = [literal for literal in parts[0] if is_about(second, literal)]
            found.append(parts[0] not in first or any(holds(literal, values) for literal in inner))
        elif word == "either":
            found.append(not outer(parts[0]))
        elif word == "ring" and all(outer(bound) for bound in parts[0]):
            found.append(False)
        elif word == "ring":
            times = dict(values[1])
            found.append(all(times[run[0][1]] - times[run[-1][2]] <= sum(bound[3] for bound in run)
                             for run in slow_runs(parts[0], outer)))
        else:
            value = found[parts[1]]
            for pivot, index in parts[2]:
                value = (value or found[index]) if outer(pivot) else (value and found[index])
            found.append(value)
    return found[-1]


class MiddleCase(ProofCase):
    def check_gates(self, first, second, middle):
        """The gates have the told forms, and name what both questions name."""
        self.assertIsInstance(middle, Middle)
        self.check_frozen_object(middle)
        self.assertGreater(len(middle.gates), 0)
        for index, gate in enumerate(middle.gates):
            word, told = gate
            self.assertIn(word, ("lit", "all", "any"))
            if word == "lit":
                self.assertTrue(is_about(first, told) and is_about(second, told), told)
            else:
                self.assertTrue(all(0 <= ref < index for ref in told))

    def check(self, first, second, paper, top=3):
        """The middle of a paper has the truth value of its formula; it lies between the questions."""
        clauses = first.clauses, second.clauses
        middle = middle_of(first, second, paper)
        self.assertEqual((first.clauses, second.clauses), clauses)
        self.check_gates(first, second, middle)
        for values in grid(first, second, top):
            value = middle(values)
            self.assertIs(value, slow_value(first, second, paper, values))
            self.assertFalse(first(values) and not value)
            self.assertFalse(second(values) and value)
        self.assertEqual(middle_of(first, second, list(paper)).gates, middle.gates)
        return middle


class GatesTest(ProofCase):
    def test_literals(self):
        values = (("p",), (("x", 3), ("y", 1)))
        for literal in [P, NP, Q, NQ, most("x", "y", 2), most("x", "y", 1), most("y", "x", -2), most("y", "x", -3)]:
            self.assertIs(Middle((("lit", literal),))(values), holds(literal, values))

    def test_all_and_any(self):
        gates = (("lit", P), ("lit", Q), ("lit", R))
        for names in itertools.chain.from_iterable(itertools.combinations("pqr", many) for many in range(4)):
            values = (names, ())
            for refs in [(0,), (0, 1), (1, 2), (0, 1, 2), (2, 1, 0), (1, 1)]:
                told = ["pqr"[ref] in names for ref in refs]
                self.assertIs(Middle((*gates, ("all", refs)))(values), all(told))
                self.assertIs(Middle((*gates, ("any", refs)))(values), any(told))

    def test_no_gates_in_a_gate(self):
        self.assertIs(Middle((("all", ()),))(((), ())), True)
        self.assertIs(Middle((("any", ()),))(((), ())), False)
        self.assertIs(Middle((("lit", P), ("all", ()), ("any", (0, 1))))(((), ())), True)
        self.assertIs(Middle((("lit", P), ("any", ()), ("all", (0, 1))))((("p",), ())), False)

    def test_the_last_gate_counts(self):
        self.assertIs(Middle((("all", ()), ("lit", P)))(((), ())), False)
        self.assertIs(Middle((("lit", P), ("any", (0,)), ("all", ())))(((), ())), True)

    def test_gates_of_gates(self):
        gates = (("lit", P), ("lit", NQ), ("all", (0, 1)), ("lit", most("x", "y", 0)), ("any", (2, 3)), ("all", (4, 0)))
        self.assertEqual(Middle(gates).gates, gates)
        for names, x, value in [(("p",), 9, True), (("p", "q"), 9, False), (("p", "q"), 0, True), ((), 0, False)]:
            self.assertIs(Middle(gates)((names, (("x", x), ("y", 0)))), value)

    def test_unknown_moments(self):
        gates = (("lit", most("z", "y", 0)), ("lit", most("x", "y", 0)), ("lit", P), ("all", ()))
        for times, name in [((), "x"), ((("x", 1),), "y"), ((("x", 1), ("y", 1)), "z"), ((("y", 0),), "x"),
                            ((("w", 0), ("x", 0), ("z", 0)), "y")]:
            with self.assertRaises(UnknownMoment) as caught:
                Middle(gates)((("p",), times))
            self.assertEqual(caught.exception.name, name)
        self.assertIs(Middle(gates)(((), (("x", 1), ("y", 1), ("z", 1)))), True)
        self.assertIs(Middle(gates)((("q",), (("a", 1), ("x", 1), ("y", 1), ("z", 1)))), True)


class BetweenTest(MiddleCase):
    def test_example(self):
        middle = between(Question.read("x-y<=0\ny-z<=0"), Question.read("z-x<=-1"))
        self.assertEqual([middle(((), (("x", 1), ("z", 1)))), middle(((), (("x", 2), ("z", 1))))], [True, False])

    def test_truths(self):
        for first, second in [
            (Question([P], [NP, Q]), Question([NQ, R], [NR])), (Question([P, Q], [P, NQ]), Question([NP])),
            (Question([NQ]), Question([Q])), (Question([P], [NP]), Question([Q])), (Question([Q]), Question([P], [NP])),
            (Question([]), Question()), (Question(), Question([])), (Question([]), Question([])),
            (Question([P], [Q, R], [NP, S]), Question([NQ], [NR, NS])),
        ]:
            middle = self.check(first, second, solve(first & second).paper)
            self.assertEqual(between(first, second).gates, middle.gates)

    def test_common_answers(self):
        for first, second in [(Question(), Question()), (Question([P]), Question([P, Q])),
                              (Question([most("x", "y", -3)], [Q]), Question([most("y", "z", 4), NQ], [R]))]:
            with self.assertRaises(HasAnswer) as caught:
                between(first, second)
            self.assertEqual(caught.exception.answer, solve(first & second).answer)

    def test_a_hundred_digits(self):
        first = Question([most("x", "y", -HUGE)], [most("y", "z", HUGE - 1)])
        second = Question([most("z", "x", 0)])
        middle = between(first, second)
        self.assertEqual([middle(((), (("x", 0), ("z", at)))) for at in [0, 1, HUGE]], [False, True, True])
        self.check_gates(first, second, middle)

    def some_pair(self, chance):
        """Two small questions with some common names."""
        outer = [yes("p"), *some_atoms(chance, 0, 2, -2, 2, "wx")]
        inner = [yes("s"), *some_atoms(chance, 0, 2, -2, 2, "yz")]
        common = [yes("q"), yes("r"), *some_atoms(chance, 0, 2, -2, 2, "xy")]
        many = chance.choice([9, 11, 14])
        pair = []
        for atoms in (outer, inner):
            clauses = [chance.sample([*atoms, *common], chance.choice([2, 2, 3])) for _ in range(many)]
            pair.append(Question(*[[chance.choice([atom, complement(atom)]) for atom in clause] for clause in clauses]))
        return pair

    def test_against_all_values(self):
        chance = random.Random(59)
        deep = 0
        for _ in range(120):
            first, second = self.some_pair(chance)
            verdict = solve(first & second)
            if verdict.word() == "yes":
                with self.assertRaises(HasAnswer) as caught:
                    between(first, second)
                self.assertEqual(caught.exception.answer, verdict.answer)
            elif solve(first).word() == "yes" == solve(second).word():
                middle = self.check(first, second, verdict.paper, 2)
                self.assertEqual(between(first, second).gates, middle.gates)
                deep += len(middle.gates) > 3
        self.assertGreater(deep, 15)

    def test_papers_with_either_steps(self):
        chance = random.Random(60)
        kinds = set()
        while len(kinds) < 4:
            first, second = self.some_pair(chance)
            both = first & second
            if solve(both).word() == "yes" or not both.atoms:
                continue
            literal = chance.choice(both.atoms)
            paper = split_paper(both, literal)
            if paper is not None:
                self.check(first, second, paper, 2)
                kinds.add((literal[0], is_outer(first, second, literal)))


def split_paper(question, literal):
    """A paper that tries a literal and its complement, None if one of them is enough."""
    without, within = solve(question, literal).lifted(), solve(question, complement(literal)).lifted()
    if check_paper(question, without) == () or check_paper(question, within) == ():
        return None
    moved = [step if step[0] != "learn" else
             ("learn", step[1], step[2] + len(without), tuple((pivot, at + len(without)) for pivot, at in step[3]))
             for step in within]
    last = len(without) + len(within) - 1
    return (*without, *moved, learn((), last, (literal, len(without) - 1)))


class GivenTest(MiddleCase):
    def test_clauses_of_the_first_question(self):
        # p is outer, q and r are inner.
        first, second = Question([P, Q, R], [NP]), Question([NQ], [NR])
        paper = solve(first & second).paper
        middle = self.check(first, second, paper)
        self.assertEqual([middle((names, ())) for names in [(), ("q",), ("r",), ("p",)]], [False, True, True, False])

    def test_clauses_that_both_questions_have(self):
        # The clause counts as one of the first question.
        first, second = Question([Q, R], [NQ, P]), Question([Q, R], [NR], [NQ])
        paper = (given(Q, R), given(NQ), given(NR), learn((), 0, (Q, 1), (R, 2)))
        middle = self.check(first, second, paper)
        self.assertEqual([middle((names, ())) for names in [(), ("q",), ("r",)]], [False, True, True])

    def test_nothing_from_the_first_or_from_the_second(self):
        first, second = Question([P], [Q]), Question([NQ], [R], [NR])
        paper = (given(NR), given(R), learn((), 0, (NR, 1)))
        self.assertEqual(self.check(first, second, paper).gates, (("all", ()),))
        first, second = Question([P], [NP]), Question([Q])
        paper = (given(NP), given(P), learn((), 0, (NP, 1)))
        self.assertEqual(self.check(first, second, paper).gates, (("any", ()),))

    def test_names_of_both_kinds_are_told_apart(self):
        # The truth x is outer, though the second question has a moment x; so it is with the moment p.
        first = Question([yes("x"), Q], [no("x")], [most("x", "p", 0), R])
        second = Question([NQ], [NR, most("x", "y", 0)], [P, R])
        paper = (given(Q, yes("x")), given(no("x")), given(NQ), learn((), 0, (yes("x"), 1), (Q, 2)))
        middle = self.check(first, second, paper)
        self.assertEqual(middle.gates, (("lit", Q),))


class EitherTest(MiddleCase):
    def test_outer_and_inner_literals(self):
        # p is outer, q common, s inner.
        first, second = Question([P, Q], [NP, Q]), Question([NQ, S], [NS])
        for literal, pair in [(P, (P, NP)), (NP, (NP, P)), (Q, (Q, NQ)), (S, (S, NS)), (NS, (NS, S))]:
            paper = (("either", literal), given(P, Q), given(NP, Q), given(NQ, S), given(NS),
                     learn((Q,), 1, (P, 2)), learn((S,), 5, (Q, 3)), learn((), 6, (S, 4)))
            self.assertEqual(clauses_of(paper)[0], tuple(sorted(pair)))
            self.check(first, second, paper)
        paper = (given(P, Q), ("either", P), given(NP, Q), given(NQ, S), given(NS),
                 learn((P, Q), 0, (P, 1)), learn((Q,), 5, (P, 2)), learn((S,), 6, (Q, 3)), learn((), 7, (S, 4)))
        self.check(first, second, paper)
        paper = (given(NQ, S), ("either", NS), given(NS), given(P, Q), given(NP, Q), learn((NQ, S), 0, (S, 1)),
                 learn((NQ,), 5, (S, 2)), learn((Q,), 3, (P, 4)), learn((), 6, (NQ, 7)))
        self.check(first, second, paper)

    def test_the_formula_starts_with_an_either_step(self):
        first, second = Question([P, Q], [NP]), Question([NQ])
        for literal, pivot in [(P, NP), (NP, NP)]:
            paper = (("either", literal), given(P, Q), given(NP), given(NQ), learn((P, Q), 1),
                     learn((P, Q), 0, (pivot, 4)), learn((Q,), 5, (P, 2)), learn((), 6, (Q, 3)))
            middle = self.check(first, second, paper)
            self.assertEqual([middle(((), ())), middle((("q",), ()))], [False, True])


class LeftOutTest(MiddleCase):
    def test_a_formula_that_is_left_out_behind_the_one_that_counts(self):
        # The ring of w and x says false, and with it what the clause of p and x-y<=0 says.
        out, back, there, home = most("x", "w", 1), most("w", "x", -2), most("x", "y", 0), most("y", "x", 0)
        first, second = Question([NP, Q], [P, there], [out], [back]), Question([home], [NQ])
        paper = (given(NP, Q), given(there, P), ring(out, back, there, home), given(out), given(back), given(home),
                 given(NQ), learn((P,), 1, (there, 2), (complement(out), 3), (complement(back), 4),
                                  (complement(home), 5)), learn((Q,), 7, (P, 0)), learn((), 8, (Q, 6)))
        middle = self.check(first, second, paper, 2)
        self.assertEqual([middle(((), (("x", 0), ("y", 0)))), middle((("q",), (("x", 9), ("y", 0))))], [False, True])


class RingTest(MiddleCase):
    # w is a moment of the first question alone, z one of the second.
    XW, WX, WY = most("x", "w", 1), most("w", "x", 0), most("w", "y", -1)
    YZ, ZX, ZY = most("y", "z", -1), most("z", "x", 0), most("z", "y", 1)

    def unit_paper(self, bounds):
        """A paper for the bounds of a negative ring as clauses of one literal."""
        clause = sorted({complement(bound) for bound in bounds})
        units = [(bound,) for bound in sorted(set(bounds))]
        rows = [(literal, 1 + units.index((complement(literal),))) for literal in clause]
        return (ring(*bounds), *[given(*unit) for unit in units], learn((), 0, *rows))

    def check_turned(self, first, second, bounds):
        """All turns of the ring have the same middle; its values by the times of the moments."""
        for turn in range(len(bounds)):
            paper = self.unit_paper(bounds[turn:] + bounds[:turn])
            middle = self.check(first, second, paper, 2)
            yield middle

    def test_one_run(self):
        first, second = Question.units(self.XW, self.WY), Question.units(self.YZ, self.ZX)
        for middle in self.check_turned(first, second, [self.XW, self.WY, self.YZ, self.ZX]):
            self.assertEqual(middle.gates, (("lit", most("x", "y", 0)),))

    def test_several_runs(self):
        names = "abc"
        first = Question.units(most("a", "w", 0), most("w", "b", -1), most("c", "v", 2), most("v", "a", -3))
        second = Question.units(most("b", "c", 1))
        bounds = [most("a", "w", 0), most("w", "b", -1), most("b", "c", 1), most("c", "v", 2), most("v", "a", -3)]
        # One run goes over the end of the ring: c to v to a to w to b.
        for middle in self.check_turned(first, second, bounds):
            self.assertEqual(middle.gates, (("lit", most("c", "b", -2)),))
        second = Question.units(most("b", "c", 1), most("a", "a2", 0), most("a2", "a", 0))
        bounds = [*bounds, most("a", "a2", 0), most("a2", "a", 0)]
        for middle in self.check_turned(first, second, bounds):
            for integers in itertools.product(range(-3, 4), repeat=3):
                times = dict(zip(names, integers))
                self.assertEqual(middle(((), tuple(times.items()))),
                                 times["a"] - times["b"] <= -1 and times["c"] - times["a"] <= -1)

    def test_no_outer_bound(self):
        first, second = Question([P]), Question.units(self.YZ, self.ZX, most("x", "y", 0))
        for middle in self.check_turned(first, second, [self.YZ, self.ZX, most("x", "y", 0)]):
            self.assertEqual(middle.gates, (("all", ()),))
        # Also where the bounds are clauses of the first question: they are inner, but their clauses are its own.
        first = Question.units(self.YZ)
        for middle in self.check_turned(first, second, [self.YZ, self.ZX, most("x", "y", 0)]):
            self.assertEqual(middle.gates, (("lit", self.YZ),))

    def test_outer_bounds_alone(self):
        first, second = Question.units(self.XW, most("w", "x", -2)), Question([most("x", "y", 0)])
        for middle in self.check_turned(first, second, [self.XW, most("w", "x", -2)]):
            self.assertEqual(middle.gates, (("any", ()),))

    def test_a_run_between_the_same_moments(self):
        # From x to w and back, and from x to z and back.
        first, second = Question.units(self.XW, most("w", "x", -2)), Question.units(self.ZX, most("x", "z", 0))
        for middle in self.check_turned(first, second, [self.XW, most("w", "x", -2), most("x", "z", 0), self.ZX]):
            self.assertEqual(middle.gates, (("any", ()),))
        first, second = Question.units(self.XW, self.WX), Question.units(self.ZX, most("x", "z", -2))
        for middle in self.check_turned(first, second, [self.XW, self.WX, most("x", "z", -2), self.ZX]):
            self.assertEqual(middle.gates, (("all", ()),))
        # The run has the sum 0.
        first, second = Question.units(self.WX, most("x", "w", 0)), Question.units(self.ZX, most("x", "z", -1))
        for middle in self.check_turned(first, second, [most("x", "w", 0), self.WX, most("x", "z", -1), self.ZX]):
            self.assertEqual(middle.gates, (("all", ()),))

    def test_a_run_between_the_same_moments_beside_another(self):
        for back, value in [(-1, True), (-2, False)]:
            first = Question.units(self.XW, most("w", "x", back), self.WY)
            second = Question.units(self.YZ, self.ZX, most("x", "z", 0))
            bounds = [self.XW, most("w", "x", back), most("x", "z", 0), self.ZX, self.XW, self.WY, self.YZ, self.ZX]
            for middle in self.check_turned(first, second, bounds):
                self.assertIs(middle(((), (("x", 0), ("y", 0)))), value)
                self.assertIs(middle(((), (("x", 1), ("y", 0)))), False)

    def test_rings_by_chance(self):
        chance = random.Random(61)
        for _ in range(150):
            places = [chance.choice("vwxyz")]
            while len(places) < 2 or places[-1] != places[0] and len(places) < 8:
                options = {"v": "wxy", "w": "vxy", "x": "vwyz", "y": "vwxz", "z": "xy"}[places[-1]]
                places.append(chance.choice(options))
            if places[-1] != places[0]:
                continue
            bounds = [most(x, y, chance.randrange(-2, 2)) for x, y in zip(places, places[1:])]
            if sum(bound[3] for bound in bounds) < 0:
                outer = [bound for bound in bounds if set(bound[1:3]) & set("vw")]
                first = Question.units(*outer)
                second = Question([most("x", "y", 5), most("y", "z", 5)],
                                  *[(bound,) for bound in bounds if bound not in outer])
                paper = self.unit_paper(bounds)
                self.check(first, second, paper, 1)


class WrongTest(MiddleCase):
    FIRST, SECOND = Question([P], [NP, Q], [most("w", "x", 0), P]), Question([NQ], [S, most("x", "z", 0)])
    PAPER = (given(NP, Q), given(P), given(NQ), learn((Q,), 0, (NP, 1)), learn((), 3, (Q, 2)))

    def refused(self, index, paper):
        with self.assertRaises(WrongStep) as caught:
            middle_of(self.FIRST, self.SECOND, paper)
        self.assertEqual(caught.exception.index, index)

    def test_right(self):
        self.check(self.FIRST, self.SECOND, self.PAPER)

    def test_values_that_are_no_papers(self):
        for value in [*WRONG_PAPERS, *PLAIN, "paper", {}, {0: 1}, (), []]:
            self.refused(0, value)

    def test_wrong_steps(self):
        wrong = [given(R), given(P, NP), ("either", "p"), ring(most("w", "x", 0), most("x", "w", 0)), None,
                 ["given", (P,)], ("given",), ring(most("w", "x", -1)), learn((P,), 9), learn((P,), True)]
        for step in wrong:
            for index in range(len(self.PAPER)):
                self.refused(index, (*self.PAPER[:index], step, *self.PAPER[index:]))
                self.refused(index, [*self.PAPER[:index], step, *self.PAPER[index:]])

    def strange(self):
        """Steps that are right, but not about names of one question."""
        return [("either", R), ("either", NR), ("either", most("w", "z", 0)), ("either", most("x", "y", 3)),
                ("either", most("z", "w", 0)), ring(most("w", "z", 0), most("z", "w", -1)),
                ring(most("w", "x", 0), most("x", "y", 1), most("y", "w", -3)),
                ring(most("x", "z", 0), most("z", "w", 0), most("w", "x", -1)), ("either", yes("w")),
                ("either", yes("x"))]

    def test_literals_that_are_neither_inner_nor_outer(self):
        for step in self.strange():
            for index in range(2):
                paper = (*self.PAPER[:index], step, *self.PAPER[index:2])
                check_paper(self.FIRST & self.SECOND, paper)
                self.refused(index, (*paper, given(R)))
                self.refused(index, paper)

    def test_a_step_that_the_last_one_does_not_need(self):
        for step in self.strange():
            moved = learn((), 4, (Q, 3))
            paper = (*self.PAPER[:2], step, given(NQ), learn((Q,), 0, (NP, 1)), moved)
            self.assertEqual(check_paper(self.FIRST & self.SECOND, paper), ())
            self.refused(2, paper)

    def test_the_least_index(self):
        self.refused(0, (("either", R), given(R), *self.PAPER))
        self.refused(0, (given(R), ("either", R), *self.PAPER))
        self.refused(1, (given(P), ("either", R), ("either", R), None))

    def test_another_outcome(self):
        self.refused(3, self.PAPER[:4])
        self.refused(3, list(self.PAPER[:4]))
        self.refused(0, self.PAPER[:1])
        self.refused(5, (*self.PAPER, given(P)))
        self.refused(0, (("either", P),))
        # A wrong step comes before the outcome.
        self.refused(1, (given(P), given(R), given(NQ)))

    def test_a_pivot_that_is_neither_stands_behind_a_wrong_step(self):
        paper = (("either", R), ("either", NR), learn((NR, R), 0, (R, 1)), *[
            given(NP, Q), given(P), given(NQ), learn((Q,), 3, (NP, 4)), learn((), 6, (Q, 5))])
        self.assertEqual(check_paper(self.FIRST & self.SECOND, paper), ())
        self.refused(0, paper)

    def test_arguments_are_not_changed(self):
        paper = list(self.PAPER)
        middle_of(self.FIRST, self.SECOND, paper)
        self.assertEqual(tuple(paper), self.PAPER)


if __name__ == "__main__":
    unittest.main()

"""Points 28 to 37: the machine, its deeds, its rank and its papers, in examples."""

import itertools
import unittest

from ringclause.errors import (
    InvalidLimit, InvalidLiteral, NoPaper, NotAllowed, RingclauseError, UnknownLiteral, UnknownNumber)
from ringclause.literals import clause_of, complement
from ringclause.machine import PACE, SPREAD, Machine
from ringclause.papers import check_paper
from ringclause.questions import Question
from tests.samples import HUGE, NO_LITERALS, PLAIN, Stubborn, most, no, yes

P, Q, R, S = yes("p"), yes("q"), yes("r"), yes("s")
NP, NQ, NR, NS = no("p"), no("q"), no("r"), no("s")
XY, YZ, ZX = most("x", "y", -1), most("y", "z", -1), most("z", "x", 1)
XZ = most("x", "z", 0)
SQUARE = Question([P, Q], [P, NQ], [NP, Q], [NP, NQ])
# Numbers of the clauses of the square.
NOT_BOTH, ONLY_WITH, NOT_ALONE, ANY = range(4)
DECIDED = ("decided",)
NO_INDEXES = [-1, True, False, None, 1.0, 0.0, "0", (0,), Stubborn(), -HUGE]


def clause(number):
    return ("clause", number)


def at(question, *literals):
    """The source of the clause of a question that has these literals."""
    return ("clause", question.clauses.index(clause_of(literals)))


def chain(*bounds):
    return ("chain", bounds)


def ring(*bounds):
    return ("ring", bounds)


def machine_after(question, *deeds, **more):
    machine = Machine(question, **more)
    for deed in deeds:
        machine.do(deed)
    return machine


class MachineCase(unittest.TestCase):
    def raises(self, error, value, call, *args, **more):
        with self.assertRaises(error) as caught:
            call(*args, **more)
        (told,) = vars(caught.exception).values()
        self.assertIs(told, value)

    def told(self, machine):
        return (machine.question, machine.atoms, machine.pace, machine.spread, machine.trail, machine.level,
                machine.state, machine.restarts, machine.since, machine.rank, machine.limit, machine.numbers,
                machine.learnt, machine.clashes(), machine.forced())

    def refused(self, machine, *deeds):
        before = self.told(machine)
        for deed in deeds:
            self.raises(NotAllowed, deed, machine.do, deed)
            self.assertEqual(self.told(machine), before)


class NewMachineTest(MachineCase):
    def test_example(self):
        machine = Machine(Question.read("p | q\np | ~q\n~p | q\n~p | ~q"))
        self.assertEqual([machine.atoms, machine.rank, machine.limit], [(P, Q), 0, 189])

    def test_a_new_machine(self):
        machine = Machine(SQUARE)
        self.assertEqual([PACE, SPREAD, machine.pace, machine.spread], [4, 2, 4, 2])
        self.assertEqual(machine.question, SQUARE)
        self.assertEqual([machine.trail, machine.level, machine.state], [(), 0, "open"])
        self.assertEqual([machine.restarts, machine.since, machine.learnt], [0, 0, ()])
        self.assertEqual(machine.numbers, (0, 1, 2, 3))
        self.assertEqual([machine.clashes(), machine.forced()], [(), ()])

    def test_no_clauses(self):
        machine = Machine(Question())
        self.assertEqual([machine.atoms, machine.numbers, machine.rank, machine.limit], [(), (), 0, 1])
        machine.do(("yes", ((), ())))
        self.assertEqual([machine.state, machine.rank], ["yes", 0])

    def test_extra(self):
        question = Question([Q], [XY, NP])
        for extra in [(NR, most("y", "x", 0), R, P, ZX), [ZX, P, R, NR, most("y", "x", 0)]]:
            machine = Machine(question, extra=extra)
            self.assertEqual(machine.atoms, (most("x", "y", -1), most("x", "z", -2), P, Q, R))
            self.assertEqual(machine.question, question)
        self.assertEqual(Machine(question, extra=[]).atoms, question.atoms)

    def test_extra_is_copied(self):
        extra = [R]
        machine = Machine(Question([P]), extra=extra)
        extra.append(S)
        self.assertEqual([machine.atoms, extra], [(P, R), [R, S]])

    def test_numbers(self):
        machine = Machine(Question([Q, P], [NP], [XY]))
        self.assertEqual([machine.clause_at(number) for number in machine.numbers], [(XY,), (NP,), (P, Q)])
        for number in [*NO_INDEXES, 3, 4, HUGE]:
            self.raises(UnknownNumber, number, machine.clause_at, number)
            self.raises(UnknownNumber, number, machine.paper_of, number)

    def test_wrong_extra(self):
        for value in NO_LITERALS:
            self.raises(InvalidLiteral, value, Machine, SQUARE, extra=[P, value, None])
            self.raises(InvalidLiteral, value, Machine, SQUARE, extra=(value,), pace=0, spread=-1)

    def test_wrong_limits(self):
        for value in [True, False, 0, -1, -HUGE, None, "4", 4.0, [4], Stubborn()]:
            self.raises(InvalidLimit, value, Machine, SQUARE, pace=value)
            self.raises(InvalidLimit, value, Machine, SQUARE, pace=value, spread=-1)
        for value in [True, False, -1, -HUGE, None, "2", 2.0, (2,), Stubborn()]:
            self.raises(InvalidLimit, value, Machine, SQUARE, spread=value)
            self.raises(InvalidLimit, value, Machine, SQUARE, extra=[P], pace=1, spread=value)

    def test_right_limits(self):
        for pace, spread in [(1, 0), (HUGE, HUGE)]:
            machine = Machine(SQUARE, pace=pace, spread=spread)
            self.assertEqual([machine.pace, machine.spread], [pace, spread])


class TrailTest(MachineCase):
    def test_after_each_kind_of_deed(self):
        question = Question([NP, Q], [NP, NQ, R], [NR, NS], [NP, NR, S])
        machine = machine_after(question, ("decide", P))
        self.assertEqual([machine.trail, machine.level], [((P, 1, DECIDED),), 1])
        by_p, by_q, clash = at(question, NP, Q), at(question, NP, NQ, R), at(question, NR, NS)
        machine.do(("put", Q, by_p))
        self.assertEqual([machine.trail, machine.level], [((P, 1, DECIDED), (Q, 1, by_p)), 1])
        machine.do(("decide", S))
        self.assertEqual([machine.trail[2:], machine.level], [((S, 2, DECIDED),), 2])
        # Forced since level 1, but put at level 2.
        machine.do(("put", R, by_q))
        self.assertEqual([machine.trail[3:], machine.level], [((R, 2, by_q),), 2])
        self.assertEqual(machine.clashes(), (clash,))
        machine.do(("learn", clash, 1, (NP, NQ, NS)))
        self.assertEqual(machine.trail, ((P, 1, DECIDED), (Q, 1, by_p), (NS, 1, clause(4))))
        self.assertEqual([machine.level, machine.since, machine.learnt], [1, 1, ((4, (NP, NQ, NS), 2),)])

    def test_restart_and_ends(self):
        question = Question([P, Q], [P, NQ], [R, S])
        clash = at(question, P, NQ)
        machine = machine_after(question, ("decide", NP), ("put", Q, at(question, P, Q)), pace=1)
        self.assertEqual(machine.clashes(), (clash,))
        machine.do(("learn", clash, 1, (P,)))
        self.assertEqual([machine.trail, machine.level], [((P, 0, clause(3)),), 0])
        machine.do(("decide", Q))
        machine.do(("decide", NR))
        self.assertEqual([entry[1] for entry in machine.trail], [0, 1, 2])
        machine.do(("restart",))
        self.assertEqual([machine.trail, machine.level], [((P, 0, clause(3)),), 0])
        for literal in [NQ, R, S]:
            machine.do(("decide", literal))
        trail = machine.trail
        machine.do(("yes", (("p", "r", "s"), ())))
        self.assertEqual([machine.trail, machine.level, machine.state], [trail, 3, "yes"])

    def test_truth_of(self):
        machine = machine_after(Question([P, Q], [XY, R]), ("decide", NP), ("put", Q, clause(1)), ("decide", XY))
        told = {P: "false", NP: "true", Q: "true", NQ: "false", R: "free", NR: "free", XY: "true",
                complement(XY): "false"}
        for literal, truth in told.items():
            self.assertEqual(machine.truth_of(literal), truth)
        for literal in [S, NS, most("x", "y", 0), most("y", "x", -1), XZ, *NO_LITERALS]:
            self.raises(UnknownLiteral, literal, machine.truth_of, literal)
        self.assertEqual(Machine(Question([P]), extra=[NS]).truth_of(S), "free")


class ClashTest(MachineCase):
    def test_the_empty_clause(self):
        machine = Machine(Question([], [P]))
        self.assertEqual([machine.clashes(), machine.forced()], [(clause(0),), ()])
        self.assertEqual([machine.resolved(clause(0), 0), machine.resolved(clause(0), 1)], [(), None])
        self.refused(machine, ("put", P, clause(1)), ("decide", P), ("learn", clause(0), 0, ()), ("restart",),
                     ("yes", (("p",), ())))
        machine.do(("no", clause(0)))
        self.assertEqual([machine.state, machine.refutation()], ["no", (("given", ()),)])

    def test_several_clashes_at_once(self):
        question = Question([NP, NQ], [NQ, R], [NR, NQ], [Q, XY], [most("y", "x", 0), NQ])
        machine = machine_after(question, ("decide", P), ("decide", NR), ("decide", XY))
        self.assertEqual([machine.clashes(), len(machine.forced())], [(), 3])
        machine.do(("decide", Q))
        clauses = [(most("y", "x", 0), NQ), (NP, NQ), (NQ, R)]
        self.assertEqual(machine.clashes(), tuple(at(question, *literals) for literals in clauses))
        self.assertEqual(machine.forced(), ())
        # A clause that ties two bounds to the ring that they are, too.
        question = Question([most("y", "x", 0), most("x", "y", 1)], [P, XY], [P, most("y", "x", -2)])
        machine = machine_after(question, ("decide", XY), ("decide", most("y", "x", -2)))
        clash = at(question, most("y", "x", 0), most("x", "y", 1))
        self.assertEqual(machine.clashes(), (clash, ring(most("y", "x", -2), XY)))
        self.assertEqual(machine.forced(), ())

    def test_the_ring_of_the_trail(self):
        question = Question([XY, YZ, ZX])
        for order in itertools.permutations([XY, YZ, ZX]):
            machine = machine_after(question, *[("decide", bound) for bound in order])
            last = order[2]
            rest = {XY: (YZ, ZX), YZ: (ZX, XY), ZX: (XY, YZ)}[last]
            self.assertEqual(machine.clashes(), (ring(last, *rest),))
            self.assertEqual(machine.resolved(machine.clashes()[0], 0), tuple(sorted(complement(b) for b in order)))

    def test_clauses_with_a_literal_and_its_complement(self):
        machine = machine_after(Question([P, NP, Q]), ("decide", NQ))
        self.assertEqual([machine.clashes(), machine.forced()], [(), ()])
        machine.do(("decide", P))
        self.assertEqual([machine.clashes(), machine.forced()], [(), ()])

    def test_clashes_and_forced_after_the_end(self):
        machine = Machine(Question([P], [NP]))
        self.assertEqual(machine.forced(), ((NP, clause(0)), (P, clause(1))))
        machine.do(("put", P, clause(1)))
        machine.do(("no", clause(0)))
        self.assertEqual([machine.clashes(), machine.forced()], [(clause(0),), ()])
        self.assertEqual([machine.resolved(clause(0), 0), machine.resolved(clause(0), 1)], [(NP,), ()])
        machine = machine_after(Question([P]), ("put", P, clause(0)), ("yes", (("p",), ())))
        self.assertEqual([machine.clashes(), machine.forced(), machine.resolved(clause(0), 0)], [(), (), None])


class ForcedTest(MachineCase):
    def test_two_clauses_and_a_chain(self):
        question = Question([most("x", "z", 3), NP], [most("x", "z", 3), NP, NQ], [XY, R], [YZ, R])
        machine = machine_after(question, ("decide", P), ("decide", Q), ("decide", XY))
        first, second = (machine.numbers[index] for index in (1, 2))
        self.assertEqual([machine.clause_at(first), machine.clause_at(second)],
                         [(most("x", "z", 3), NP), (most("x", "z", 3), NP, NQ)])
        forced = most("x", "z", 3)
        self.assertEqual(machine.forced(), ((forced, clause(first)), (forced, clause(second))))
        machine.do(("decide", YZ))
        self.assertEqual(machine.forced(), ((forced, clause(first)), (forced, clause(second)),
                                            (forced, chain(XY, YZ))))
        for reason in [clause(first), clause(second), chain(XY, YZ)]:
            self.assertTrue(machine.allows(("put", forced, reason)))

    def test_chains_of_one_bound(self):
        atoms = [most("x", "y", k) for k in (-2, 0, 3)]
        machine = Machine(Question(), extra=atoms)
        machine.do(("decide", atoms[1]))
        self.assertEqual(machine.forced(), ((atoms[2], chain(atoms[1])),))
        machine.do(("decide", atoms[0]))
        self.assertEqual(machine.forced(), ((atoms[2], chain(atoms[0])),))
        machine = machine_after(Question(), ("decide", complement(atoms[1])), extra=atoms)
        self.assertEqual(machine.forced(), ((complement(atoms[0]), chain(complement(atoms[1]))),))

    def test_in_ascending_order_of_the_bounds(self):
        atoms = [most("x", "y", 0), most("x", "y", 1), most("x", "z", 4), most("y", "z", 2), most("w", "x", 9)]
        machine = machine_after(Question(), ("decide", atoms[0]), ("decide", atoms[3]), extra=atoms)
        self.assertEqual(machine.forced(), ((atoms[1], chain(atoms[0])), (atoms[2], chain(atoms[0], atoms[3]))))
        both = [most("x", "y", 1), most("y", "z", -5), most("x", "z", -5)]
        machine = machine_after(Question(), ("decide", complement(both[2])), ("decide", both[1]), extra=both)
        # x - z is at least -4 and y - z at most -5, so x - y is at least 1; that alone forces nothing.
        self.assertEqual(machine.forced(), ())
        machine.do(("decide", most("y", "x", -2)))
        self.assertEqual([machine.clashes(), machine.forced()], [(), ()])

    def test_the_best_chain(self):
        direct, long, first, second = most("x", "z", 1), most("x", "z", 5), most("x", "y", 0), most("y", "z", 1)
        machine = Machine(Question(), extra=[direct, long, first, second])
        machine.do(("decide", first))
        machine.do(("decide", second))
        self.assertEqual(machine.forced(), ((direct, chain(first, second)), (long, chain(first, second))))
        machine.do(("put", direct, chain(first, second)))
        self.assertEqual(machine.forced(), ((long, chain(direct)),))
        low = most("y", "z", -3)
        machine = Machine(Question(), extra=[direct, long, first, second, low])
        for bound in (first, direct, low):
            machine.do(("decide", bound))
        self.assertEqual(machine.forced(), ((long, chain(first, low)), (second, chain(low))))

    def test_bounds_that_no_chain_reaches(self):
        machine = machine_after(Question(), ("decide", XY), extra=[XY, YZ, ZX, P])
        self.assertEqual(machine.forced(), ())

    def test_a_bound_forced_the_other_way(self):
        machine = machine_after(Question(), ("decide", XY), ("decide", YZ), extra=[XY, YZ, ZX])
        self.assertEqual(machine.forced(), ((most("x", "z", -2), chain(XY, YZ)),))


class ResolvedTest(MachineCase):
    def test_rings(self):
        question = Question([P, XY], [P, YZ], [Q, ZX])
        machine = machine_after(question, ("decide", ZX), ("decide", NP), ("put", XY, at(question, P, XY)),
                                ("put", YZ, at(question, P, YZ)))
        self.assertEqual(machine.clashes(), (ring(YZ, ZX, XY),))
        zx, xy, yz = complement(ZX), complement(XY), complement(YZ)
        # The same ring, begun elsewhere or gone round twice, is a clash that is not listed.
        for clash in [ring(YZ, ZX, XY), ring(ZX, XY, YZ), ring(XY, YZ, ZX), ring(XY, YZ, ZX, XY, YZ, ZX)]:
            self.assertEqual([machine.resolved(clash, steps) for steps in range(4)],
                             [clause_of([zx, xy, yz]), clause_of([zx, xy, P]), clause_of([zx, P]), None])

    def test_a_chain_as_reason(self):
        far = most("x", "z", -2)
        question = Question([complement(far), NP], [P, Q], [complement(far), NQ])
        begin = [("decide", XY), ("decide", YZ), ("put", far, chain(XY, YZ)),
                 ("put", NP, at(question, complement(far), NP))]
        clash = at(question, P, Q)
        machine = machine_after(question, *begin, ("decide", NQ), extra=[XY, YZ])
        self.assertEqual(machine.clashes(), (clash,))
        self.assertEqual([machine.resolved(clash, steps) for steps in range(3)], [(P, Q), None, None])
        machine = machine_after(question, *begin, ("put", NQ, at(question, complement(far), NQ)), extra=[XY, YZ])
        self.assertEqual([machine.resolved(clash, steps) for steps in range(5)],
                         [(P, Q), (complement(far), P), (complement(far),),
                          clause_of([complement(XY), complement(YZ)]), None])

    def test_level_0_is_resolved_away(self):
        machine = machine_after(Question([P], [NP, Q], [NP, NQ]), ("put", P, clause(2)), ("put", Q, clause(1)))
        self.assertEqual(machine.clashes(), (clause(0),))
        self.assertEqual([machine.resolved(clause(0), steps) for steps in range(4)], [(NP, NQ), (NP,), (), None])

    def test_wrong_clashes_and_steps(self):
        question = Question([P, Q], [NP, R], [XY, S], [YZ, S], [ZX, S])
        machine = machine_after(question, ("decide", XY), ("decide", YZ), ("decide", ZX))
        self.assertEqual(machine.clashes(), (ring(ZX, XY, YZ),))
        for value in [*PLAIN, (), ("clause",), ("ring",), ("clause", 0), ("clause", 1), ("clause", 9), ("clause", -1),
                      ("clause", True), ("clause", 0.0), ("clause", None), ("clause", 0, 0), ["clause", 0],
                      ("clause", (0,)), ("ring", ()), ("ring", [ZX, XY, YZ]), ["ring", (ZX, XY, YZ)],
                      ("ring", (ZX, XY)), ("ring", (ZX, YZ, XY)), ("ring", (ZX, XY, YZ), -1), ("ring", ZX, XY, YZ),
                      ("ring", (ZX,)), ("ring", 3), ("ring", None), ("rings", (ZX, XY, YZ)), ("chain", (ZX, XY, YZ)),
                      ("ring", (list(ZX), XY, YZ)), ("ring", (most("z", "x", True), XY, YZ)), ("ring", (P, NP)),
                      ("ring", (most("z", "x", 0), XY, YZ)), ("ring", (most("y", "x", 0), XY)), (True, 0),
                      ("clause", Stubborn()), ("ring", Stubborn()), (Stubborn(), 0), ("ring", (Stubborn(),))]:
            for steps in [0, 1, True, None]:
                self.assertIsNone(machine.resolved(value, steps))
            self.refused(machine, ("no", value), ("learn", value, 0, ()))
        for steps in [-1, True, False, None, 0.0, "0", (0,), Stubborn(), 1, HUGE]:
            self.assertIsNone(machine.resolved(ring(ZX, XY, YZ), steps))
        self.assertIsNotNone(machine.resolved(ring(ZX, XY, YZ), 0))

    def test_rings_that_are_not_negative(self):
        machine = machine_after(Question(), ("decide", XY), ("decide", most("y", "x", 1)),
                                extra=[XY, most("y", "x", 1)])
        self.assertEqual(machine.clashes(), ())
        self.assertIsNone(machine.resolved(ring(XY, most("y", "x", 1)), 0))


class PutTest(MachineCase):
    def setUp(self):
        self.machine = machine_after(Question([NP, Q], [NP, NQ, R], [XZ, S]), ("decide", P), ("decide", XY),
                                     ("decide", YZ), extra=[XY, YZ, most("y", "z", 2), most("x", "y", 2)])
        self.numbers = {self.machine.clause_at(number): number for number in self.machine.numbers}

    def test_allowed(self):
        self.machine.do(("put", Q, clause(self.numbers[(NP, Q)])))
        self.assertEqual(self.machine.trail[-1], (Q, 3, clause(self.numbers[(NP, Q)])))
        self.machine.do(("put", XZ, chain(XY, YZ)))
        self.assertEqual(self.machine.trail[-1], (XZ, 3, chain(XY, YZ)))

    def test_any_chain_may_be_the_reason(self):
        zero, loop = most("x", "y", 0), most("y", "x", 0)
        for bounds in [(zero,), (zero, loop, zero), (zero, loop, zero, loop, zero)]:
            machine = machine_after(Question(), ("decide", zero), ("decide", loop),
                                    extra=[zero, loop, most("x", "y", 4)])
            self.assertEqual(machine.forced(), ((most("x", "y", 4), chain(zero)),))
            machine.do(("put", most("x", "y", 4), chain(*bounds)))
            self.assertEqual(machine.trail[-1], (most("x", "y", 4), 2, chain(*bounds)))

    def test_broken_conditions(self):
        q, r = clause(self.numbers[(NP, Q)]), clause(self.numbers[(NP, NQ, R)])
        self.refused(
            self.machine,
            # the literal is not free, not one of the machine's, or none at all
            ("put", P, q), ("put", NP, q), ("put", yes("a"), q), *[("put", value, q) for value in NO_LITERALS],
            # the clause does not force it: another literal, one that is not false, no active clause
            ("put", NQ, q), ("put", R, q), ("put", R, r), ("put", S, q), ("put", Q, r), ("put", Q, clause(99)),
            ("put", Q, clause(-1)), ("put", Q, clause(True)), ("put", Q, clause(None)), ("put", Q, clause(1.0)),
            # the chain does not force it
            ("put", XZ, chain(XY)), ("put", XZ, chain(YZ, XY)), ("put", XZ, chain()), ("put", XZ, chain(YZ)),
            ("put", XZ, chain(XY, most("y", "z", 2))), ("put", complement(XZ), chain(XY, YZ)), ("put", Q, chain(XY)),
            ("put", XZ, chain(most("x", "y", 2), YZ)), ("put", XZ, ("chain", [XY, YZ])), ("put", XZ, ("chain", XY)),
            ("put", XZ, ("chain", (XY, list(YZ)))), ("put", XZ, ("chain", (XY, P))), ("put", XZ, ("chain", None)),
            ("put", XZ, ("chain", (XY, YZ), -2)), ("put", XZ, ("ring", (XY, YZ))), ("put", XZ, ["chain", (XY, YZ)]),
            ("put", XZ, ("chain", (XY, most("y", "z", True)))), ("put", XZ, ("chain", Stubborn())),
            # no reason at all
            *[("put", Q, value) for value in PLAIN], ("put", Q, DECIDED), ("put", Q, ("clause",)), ("put", Q, ()),
            ("put", Q, ["clause", q[1]]), ("put", Q, ("clause", q[1], 0)), ("put", Q, (Stubborn(), q[1])),
            ("put", Q, ("clause", (q[1],))), ("put", Q, ("clause", [q[1]])),
            # no deed
            ["put", Q, q], ("put", Q), ("put", Q, q, 0), ("put",), ("Put", Q, q), ("put", q, Q), ("put", list(Q), q))
        self.assertTrue(self.machine.allows(("put", Q, q)))

    def test_not_at_a_clash(self):
        machine = machine_after(Question([NP, Q], [NP, NQ], [NP, R]), ("decide", P), ("put", Q, clause(1)))
        self.assertEqual([machine.clause_at(2), machine.clashes()], [(NP, R), (clause(0),)])
        self.refused(machine, ("put", R, clause(2)), ("decide", R), ("decide", NR))

    def test_a_chain_with_too_great_a_sum(self):
        bounds = [most("x", "y", 3), most("y", "z", -2), most("x", "z", 1), most("x", "z", 0)]
        machine = machine_after(Question(), ("decide", bounds[0]), ("decide", bounds[1]), extra=bounds)
        self.refused(machine, ("put", bounds[3], chain(*bounds[:2])))
        machine.do(("put", bounds[2], chain(*bounds[:2])))

    def test_a_chain_of_bounds_that_are_not_true(self):
        free, false = [most("x", "w", -1), most("w", "z", -1)], complement(most("x", "y", 5))
        machine = machine_after(Question(), ("decide", false), ("decide", most("z", "x", 3)), ("decide", YZ),
                                extra=[*free, false, YZ, XZ, most("z", "x", 3)])
        self.assertEqual(machine.truth_of(XZ), "free")
        self.refused(machine, ("put", XZ, chain(*free)), ("put", XZ, chain(most("x", "y", 5), YZ)),
                     ("put", XZ, chain(most("x", "z", -4))), ("put", XZ, chain(most("x", "y", -7), YZ)))
        machine.do(("decide", free[0]))
        self.refused(machine, ("put", XZ, chain(*free)))
        machine.do(("decide", free[1]))
        machine.do(("put", XZ, chain(*free)))

    def test_a_forgotten_clause_is_no_reason(self):
        machine = forgetful_machine()
        self.assertNotIn(6, machine.numbers)
        told = machine.clause_at(6)
        for literal in told[1:]:
            machine.do(("decide", complement(literal)))
        self.assertTrue(all(machine.truth_of(literal) == "false" for literal in told[1:]))
        self.assertNotIn(clause(6), [reason for _, reason in machine.forced()])
        self.refused(machine, ("put", told[0], clause(6)))
        machine.do(("decide", complement(told[0])))
        self.assertNotIn(clause(6), machine.clashes())
        self.refused(machine, ("learn", clause(6), 0, told), ("no", clause(6)))
        self.assertIsNone(machine.resolved(clause(6), 0))


def forgetful_machine():
    """A machine for a question of six clauses that has forgotten clause 6, learnt with a spread of 3."""
    names = [no("a"), no("b"), no("c")]
    question = Question([*names, P], [*names, NP, Q], [*names, NP, NQ], [R, S], [NR, NS], [yes("a"), R])
    machine = Machine(question, pace=1, spread=2)
    by = {told: number for number, told in enumerate(question.clauses)}
    for literal in names:
        machine.do(("decide", complement(literal)))
    machine.do(("put", P, clause(by[(*names, P)])))
    machine.do(("put", Q, clause(by[(*names, NP, Q)])))
    machine.do(("learn", clause(by[(*names, NP, NQ)]), 2, tuple(names)))
    machine.do(("restart",))
    return machine


class DecideTest(MachineCase):
    def test_allowed(self):
        machine = machine_after(Question([P], [XY, Q]), ("decide", complement(XY)), ("decide", NP))
        self.assertEqual(machine.trail, ((complement(XY), 1, DECIDED), (NP, 2, DECIDED)))

    def test_broken_conditions(self):
        machine = machine_after(Question([P, Q, XY]), ("decide", P))
        self.refused(machine, ("decide", P), ("decide", NP), ("decide", R), ("decide", YZ),
                     ("decide", most("x", "y", 0)),
                     *[("decide", value) for value in NO_LITERALS], ("decide",), ("decide", Q, 0), ["decide", Q],
                     ("decide", list(Q)), ("Decide", Q), ("decide", (Q,)), ("decide", most("x", "y", -1.0)))
        machine = machine_after(Question([NP]), ("decide", P), extra=[Q])
        self.refused(machine, ("decide", Q))
        one = machine_after(Question([most("x", "y", 1), Q]))
        self.refused(one, ("decide", most("x", "y", True)))


class LearnTest(MachineCase):
    def setUp(self):
        self.machine = machine_after(SQUARE, ("decide", P), ("put", Q, clause(ONLY_WITH)))

    def test_allowed(self):
        self.assertEqual(self.machine.clashes(), (clause(NOT_BOTH),))
        self.machine.do(("learn", clause(NOT_BOTH), 1, (NP,)))
        self.assertEqual(self.machine.trail, ((NP, 0, clause(4)),))
        self.assertEqual([self.machine.learnt, self.machine.since], [((4, (NP,), 1),), 1])
        self.assertEqual([self.machine.numbers, self.machine.clause_at(4)], [(0, 1, 2, 3, 4), (NP,)])

    def test_broken_conditions(self):
        clash = clause(NOT_BOTH)
        self.refused(
            self.machine,
            # the result is another clause, or the clause is not in normal form
            ("learn", clash, 1, (P,)), ("learn", clash, 1, ()), ("learn", clash, 1, (NP, NQ)),
            ("learn", clash, 1, [NP]),
            ("learn", clash, 1, NP), ("learn", clash, 1, (NP, NP)), ("learn", clash, 1, (list(NP),)),
            *[("learn", clash, 1, value) for value in PLAIN],
            # not asserting
            ("learn", clash, 0, (NP, NQ)),
            # steps that can not be done, or are no number of steps
            ("learn", clash, 2, (NP,)), ("learn", clash, 2, ()),
            *[("learn", clash, value, (NP,)) for value in NO_INDEXES],
            # no clash
            ("learn", clause(ANY), 1, (NP,)), ("learn", clause(4), 1, (NP,)), ("learn", list(clash), 1, (NP,)),
            ("learn", clause(False), 1, (NP,)), ("learn", NOT_BOTH, 1, (NP,)), ("learn", None, 1, (NP,)),
            # no deed
            ("learn", clash, 1), ("learn", clash, 1, (NP,), 0), ["learn", clash, 1, (NP,)], ("learn", (NP,), clash, 1),
            ("learnt", clash, 1, (NP,)), ("learn",))

    def test_true_in_the_place_of_1(self):
        one, far = most("x", "y", 1), most("y", "x", -2)
        machine = machine_after(Question([one, P], [one, NP]), ("decide", far), ("put", P, clause(1)))
        self.assertEqual([machine.clause_at(0), machine.clashes()], [(one, NP), (clause(0),)])
        self.refused(machine, ("learn", clause(0), 1, (most("x", "y", True),)), ("learn", clause(0), True, (one,)))
        machine.do(("learn", clause(0), 1, (one,)))

    def test_nothing_at_level_0(self):
        machine = machine_after(Question([P], [NP, Q], [NP, NQ]), ("put", P, clause(2)), ("put", Q, clause(1)))
        self.refused(machine, ("learn", clause(0), 0, (NP, NQ)), ("learn", clause(0), 1, (NP,)),
                     ("learn", clause(0), 2, ()))
        machine.do(("no", clause(0)))

    def test_a_ring_that_is_not_listed(self):
        question = Question([XY, P], [YZ, P], [ZX, Q])
        machine = machine_after(question, ("decide", YZ), ("decide", ZX), ("decide", XY))
        self.assertEqual(machine.clashes(), (ring(XY, YZ, ZX),))
        result = tuple(sorted(complement(bound) for bound in (XY, YZ, ZX)))
        machine.do(("learn", ring(ZX, XY, YZ), 0, result))
        self.assertEqual(machine.learnt, ((3, result, 3),))
        self.assertEqual(machine.trail, ((YZ, 1, DECIDED), (ZX, 2, DECIDED), (complement(XY), 2, clause(3))))

    def test_an_equal_clause_gets_a_number_of_its_own(self):
        question = Question([NP, NQ], [R, S])
        machine = machine_after(question, ("decide", P), ("decide", Q))
        self.assertEqual(machine.clashes(), (clause(0),))
        machine.do(("learn", clause(0), 0, (NP, NQ)))
        self.assertEqual(machine.trail, ((P, 1, DECIDED), (NQ, 1, clause(2))))
        self.assertEqual([machine.numbers, machine.clause_at(2)], [(0, 1, 2), (NP, NQ)])
        self.assertEqual(machine.paper_of(2), (("given", (NP, NQ)), ("learn", (NP, NQ), 0, ())))

    def test_the_levels_that_are_left(self):
        question = Question([NP, NR, S], [NP, NR, NS], [Q, NQ])
        machine = machine_after(question, ("decide", P), ("decide", Q), ("decide", R), ("put", S, clause(1)))
        self.assertEqual([machine.clause_at(1), machine.clashes()], [(NP, NR, S), (clause(0),)])
        machine.do(("learn", clause(0), 1, (NP, NR)))
        self.assertEqual(machine.trail, ((P, 1, DECIDED), (NR, 1, clause(3))))
        self.assertEqual([machine.level, machine.learnt], [1, ((3, (NP, NR), 2),)])

    def test_level_0_counts_for_the_spread(self):
        question = Question([P], [NP, NQ, NR, S], [NP, NQ, NR, NS])
        machine = machine_after(question, ("put", P, clause(2)), ("decide", Q), ("decide", R), ("put", S, clause(1)))
        machine.do(("learn", clause(0), 1, (NP, NQ, NR)))
        self.assertEqual(machine.learnt, ((3, (NP, NQ, NR), 3),))

    def test_a_late_clash_of_a_low_level(self):
        # r is put at level 2, though level 1 forces it; resolved, the clash has level 1 alone.
        question = Question([NP, R], [NP, NR, Q], [NP, NR, NQ])
        machine = machine_after(question, ("decide", P), ("decide", S), ("put", R, clause(2)), ("put", Q, clause(1)),
                                extra=[S])
        self.assertEqual([machine.clause_at(1), machine.clause_at(2)], [(NP, NR, Q), (NP, R)])
        self.refused(machine, ("learn", clause(0), 0, (NP, NQ, NR)))
        for steps, told, literal, level in [(1, (NP, NR), NR, 1), (2, (NP,), NP, 0)]:
            machine = machine_after(question, ("decide", P), ("decide", S), ("put", R, clause(2)),
                                    ("put", Q, clause(1)), ("learn", clause(0), steps, told), extra=[S])
            self.assertEqual(machine.trail[-1], (literal, level, clause(3)))


class RestartTest(MachineCase):
    def learnt_one(self, **more):
        question = Question([NP, Q], [NP, NQ], [R, S], [NR, S])
        machine = machine_after(question, ("decide", P), ("put", Q, clause(1)), ("learn", clause(0), 1, (NP,)), **more)
        return machine

    def test_allowed_and_broken_conditions(self):
        machine = self.learnt_one(pace=1)
        self.assertEqual([machine.level, machine.since, machine.clashes()], [0, 1, ()])
        self.refused(machine, ("restart",))
        machine.do(("decide", Q))
        self.refused(machine, ["restart"], ("restart", 0), ("Restart",), "restart", ("restart", ("restart",)))
        machine.do(("restart",))
        self.assertEqual([machine.trail, machine.level], [((NP, 0, clause(4)),), 0])
        self.assertEqual([machine.restarts, machine.since], [1, 0])
        machine.do(("decide", Q))
        self.refused(machine, ("restart",))

    def test_not_before_enough_is_learnt(self):
        machine = self.learnt_one(pace=2)
        machine.do(("decide", Q))
        self.refused(machine, ("restart",))
        new = Machine(Question([P, Q]), pace=1)
        new.do(("decide", P))
        self.refused(new, ("restart",))

    def test_not_at_a_clash(self):
        machine = self.learnt_one(pace=1)
        machine.do(("decide", NS))
        machine.do(("put", R, clause(3)))
        self.assertEqual([machine.clause_at(3), machine.clashes()], [(R, S), (clause(2),)])
        self.refused(machine, ("restart",))

    def test_each_restart_needs_more(self):
        pairs = [(no(name), other) for name in "abc" for other in (Q, NQ)]
        question = Question(*pairs, [R, S])
        machine = Machine(question, pace=1)
        told = []
        for name in "abc":
            machine.do(("decide", yes(name)))
            machine.do(("put", Q, at(question, no(name), Q)))
            machine.do(("learn", at(question, no(name), NQ), 1, (no(name),)))
            machine.do(("decide", R))
            told.append((machine.restarts, machine.since, machine.allows(("restart",))))
            if machine.allows(("restart",)):
                machine.do(("restart",))
            else:
                # The next clause that is learnt leads back to level 0.
                machine.do(("decide", NS))
        self.assertEqual(told, [(0, 1, True), (1, 1, False), (1, 2, True)])

    def test_what_is_forgotten(self):
        machine = forgetful_machine()
        self.assertEqual([machine.learnt, machine.numbers],
                         [((6, (no("a"), no("b"), no("c")), 3),), (0, 1, 2, 3, 4, 5)])
        self.assertEqual(machine.clause_at(6), (no("a"), no("b"), no("c")))
        self.assertEqual([machine.trail, machine.restarts, machine.since], [(), 1, 0])

    def test_spreads_that_are_not_greater_are_kept(self):
        for spread, numbers in [(0, (0, 1, 2, 3)), (1, (0, 1, 2, 3)), (2, (0, 1, 2, 3, 4)), (HUGE, (0, 1, 2, 3, 4))]:
            question = Question([NP, NQ, R], [NP, NQ, NR], [S, P], [NS, P])
            machine = machine_after(question, ("decide", P), ("decide", Q), ("put", R, clause(1)),
                                    ("learn", clause(0), 1, (NP, NQ)), ("restart",), pace=1, spread=spread)
            self.assertEqual([machine.learnt, machine.numbers], [((4, (NP, NQ), 2),), numbers])

    def test_reasons_at_level_0_are_kept(self):
        machine = self.learnt_one(pace=1, spread=0)
        self.assertEqual(machine.learnt, ((4, (NP,), 1),))
        machine.do(("decide", Q))
        machine.do(("restart",))
        self.assertEqual([machine.numbers, machine.trail], [(0, 1, 2, 3, 4), ((NP, 0, clause(4)),)])

    def test_a_number_is_not_used_again(self):
        machine = forgetful_machine()
        question, names = machine.question, (no("a"), no("b"), no("c"))
        for literal in names:
            machine.do(("decide", complement(literal)))
        machine.do(("put", P, at(question, *names, P)))
        machine.do(("put", Q, at(question, *names, NP, Q)))
        machine.do(("learn", at(question, *names, NP, NQ), 2, names))
        self.assertEqual(machine.learnt, ((6, names, 3), (7, names, 3)))
        self.assertEqual([machine.numbers, machine.trail[-1][2]], [(0, 1, 2, 3, 4, 5, 7), clause(7)])
        self.assertEqual([machine.clause_at(6), machine.clause_at(7)], [names, names])


class EndTest(MachineCase):
    def full(self):
        return machine_after(Question([P, Q], [XY, R]), ("decide", P), ("decide", NQ), ("decide", XY), ("decide", NR))

    def test_yes(self):
        for times in [(("x", 0), ("y", 1)), (("x", -5), ("y", 7)), (("x", HUGE), ("y", HUGE + 1))]:
            machine = self.full()
            machine.do(("yes", (("p",), times)))
            self.assertEqual([machine.state, machine.level], ["yes", 4])

    def test_yes_with_other_values(self):
        times = (("x", 0), ("y", 1))
        self.refused(
            self.full(),
            # other truths, other moments, a bound that does not hold
            ("yes", ((), times)), ("yes", (("p", "q"), times)), ("yes", (("p", "s"), times)), ("yes", (("q",), times)),
            ("yes", (("p", "x"), times)), ("yes", (("p",), ())), ("yes", (("p",), times[:1])),
            ("yes", (("p",), times[1:])),
            ("yes", (("p",), (*times, ("z", 0)))), ("yes", (("p",), (("a", 3), *times))),
            ("yes", (("p",), (("x", 0), ("y", 0)))), ("yes", (("p",), (("x", 2), ("y", 1)))),
            # values of another form
            ("yes", (["p"], times)), ("yes", (("p",), list(times))), ("yes", [("p",), times]),
            ("yes", (("p", "p"), times)),
            ("yes", ("p", times)), ("yes", (("p",), times[::-1])), ("yes", (("p",), (*times, times[1]))),
            ("yes", (("p",), dict(times))), ("yes", (("p",), (("x", 0), ["y", 1]))),
            ("yes", (("p",), (("x", False), ("y", 1)))),
            ("yes", (("p",), (("x", 0), ("y", True)))), ("yes", (("p",), (("x", 0), ("y", 1.0)))),
            ("yes", (("p",), (("x", 0), ("y",)))), ("yes", (("p",), (("x", 0), ("y", 1, 0)))),
            ("yes", (("p",), times, 0)),
            ("yes", ((P,), times)), ("yes", (("p",),)), ("yes", ()), ("yes", (("p",), None)), ("yes", (None, times)),
            ("yes", ((Stubborn(),), times)), ("yes", (("p",), ((Stubborn(), 0), ("y", 1)))),
            ("yes", (("p",), (("x", Stubborn()), ("y", 1)))), *[("yes", value) for value in PLAIN],
            # no deed
            ("yes",), ("yes", (("p",), times), 0), ["yes", (("p",), times)], ("Yes", (("p",), times)))

    def test_yes_only_when_every_atom_is_on_the_trail(self):
        machine = machine_after(Question([P, Q]), ("decide", P))
        self.refused(machine, ("yes", (("p",), ())), ("yes", (("p", "q"), ())))
        machine = machine_after(Question([P]), ("decide", P), extra=[R])
        self.refused(machine, ("yes", (("p",), ())), ("yes", (("p", "r"), ())))

    def test_yes_not_at_a_clash(self):
        machine = machine_after(Question([P]), ("decide", NP))
        self.refused(machine, ("yes", ((), ())))

    def test_no(self):
        machine = machine_after(Question([P], [NP]), ("put", P, clause(1)))
        self.refused(machine, ("no", clause(1)), ("no", clause(7)), ("no", 0), ("no",), ("no", clause(0), 0),
                     ["no", clause(0)],
                     ("no", ["clause", 0]), ("no", clause(False)), ("No", clause(0)),
                     *[("no", value) for value in PLAIN])
        machine.do(("no", clause(0)))
        self.assertEqual([machine.state, machine.trail], ["no", ((P, 0, clause(1)),)])

    def test_no_with_a_ring(self):
        machine = Machine(Question([XY], [YZ], [ZX]))
        for bound in (XY, YZ, ZX):
            machine.do(("put", bound, clause(machine.question.clauses.index((bound,)))))
        self.assertEqual(machine.clashes(), (ring(ZX, XY, YZ),))
        self.refused(machine, ("no", ring(ZX, YZ, XY)), ("no", ring(ZX, XY)), ("no", ("ring", [ZX, XY, YZ])))
        machine.do(("no", ring(YZ, ZX, XY)))
        self.assertEqual(machine.state, "no")

    def test_no_only_at_level_0(self):
        machine = machine_after(Question([P]), ("decide", NP))
        self.refused(machine, ("no", clause(0)))
        machine = machine_after(Question([P], [NP, Q], [NQ, R]), ("put", P, clause(2)), ("put", Q, clause(0)),
                                ("decide", NR))
        self.assertEqual(machine.clashes(), (clause(1),))
        self.refused(machine, ("no", clause(1)))

    def test_no_above_level_0_with_a_clause_of_level_0(self):
        machine = machine_after(Question([P, Q], [NP], [NQ, P]), ("put", NP, clause(0)), ("decide", NQ))
        self.assertEqual(machine.clashes(), (clause(2),))
        self.assertEqual(machine.clause_at(2), (P, Q))
        self.refused(machine, ("no", clause(2)))

    def test_nothing_after_the_end(self):
        ended = [machine_after(Question([P], [NP]), ("put", P, clause(1)), ("no", clause(0)), extra=[R]),
                 machine_after(Question([P, Q]), ("decide", P), ("decide", NQ), ("yes", (("p",), ())))]
        for machine in ended:
            self.refused(machine, ("decide", R), ("put", P, clause(1)), ("no", clause(0)), ("yes", (("p",), ())),
                         ("restart",), ("learn", clause(0), 0, (NP,)), *PLAIN)

    def test_values_of_any_kind(self):
        for machine in [Machine(SQUARE), machine_after(SQUARE, ("decide", P), ("put", Q, clause(ONLY_WITH)))]:
            self.refused(machine, *PLAIN, (), [], (None,), (0, P), ((), P), (Stubborn(),), (("decide", P),),
                         (b"decide", P),
                         ("decide, p",), "decide p", {"decide": P}, (P, "decide"), ("open",), ("forget", 1))


class RankTest(MachineCase):
    def test_in_numbers(self):
        machine = Machine(SQUARE)
        ranks = [machine.rank]
        for deed in [("decide", P), ("put", Q, clause(ONLY_WITH)), ("learn", clause(NOT_BOTH), 1, (NP,)),
                     ("put", Q, clause(ANY)), ("no", clause(NOT_ALONE))]:
            machine.do(deed)
            ranks.append(machine.rank)
        # N is 2: level 0 counts 9 for each entry, level 1 counts 3, level 2 counts 1.
        self.assertEqual(ranks, [0, 3, 6, 9, 18, 18])
        self.assertEqual(machine.limit, ((27 - 1) // 4 + 1) * 27)

    def test_restarts_count(self):
        machine = machine_after(Question([NP, Q], [NP, NQ]), ("decide", P), ("put", Q, clause(1)),
                                ("learn", clause(0), 1, (NP,)), ("decide", NQ), pace=1)
        self.assertEqual([machine.rank, machine.limit], [12, 27 * 27])
        machine.do(("restart",))
        self.assertEqual(machine.rank, 27 + 9)

    def test_limits(self):
        for atoms, pace, limit in [((), 4, 1), ([P], 1, 16), ([P], 2, 8), ([P], 3, 8), ([P], 4, 4),
                                   ([P, Q, R], 4, 16384),
                                   ([P, Q, R], 255, 512), ([P, Q, R], 256, 256), ([P, Q, R], HUGE, 256)]:
            self.assertEqual(Machine(Question(), extra=atoms, pace=pace).limit, limit)
        many = Machine(Question(), extra=[yes(f"a{index}") for index in range(30)])
        self.assertEqual(many.limit, ((31 ** 31 - 1) // 4 + 1) * 31 ** 31)


class PaperTest(MachineCase):
    def check(self, machine, number, paper):
        self.assertEqual(machine.paper_of(number), paper)
        self.assertEqual(check_paper(machine.question, paper), machine.clause_at(number))

    def test_clauses_of_the_question(self):
        machine = Machine(SQUARE)
        for number in range(4):
            self.check(machine, number, (("given", SQUARE.clauses[number]),))

    def test_clause_reasons(self):
        machine = machine_after(SQUARE, ("decide", P), ("put", Q, clause(ONLY_WITH)),
                                ("learn", clause(NOT_BOTH), 1, (NP,)))
        paper = machine.paper_of(4)
        self.assertEqual(check_paper(SQUARE, paper), (NP,))
        self.assertEqual(sorted(paper[:2]), [("given", (NP, NQ)), ("given", (NP, Q))])
        first, other = paper.index(("given", (NP, NQ))), paper.index(("given", (NP, Q)))
        self.assertEqual(paper[2:], (("learn", (NP,), first, ((NQ, other),)),))

    def test_refutation(self):
        machine = machine_after(SQUARE, ("decide", P), ("put", Q, clause(ONLY_WITH)))
        self.assertRaises(NoPaper, machine.refutation)
        for deed in [("learn", clause(NOT_BOTH), 1, (NP,)), ("put", Q, clause(ANY))]:
            machine.do(deed)
            self.assertRaises(NoPaper, machine.refutation)
        machine.do(("no", clause(NOT_ALONE)))
        paper = machine.refutation()
        self.assertEqual(check_paper(SQUARE, paper), ())
        self.assertEqual(len(paper), 6)
        word, outcome, first, rows = paper[-1]
        self.assertEqual([word, outcome, paper[first]], ["learn", (), ("given", (NQ, P))])
        self.assertEqual([(pivot, paper[index][:2]) for pivot, index in rows],
                         [(NQ, ("given", (P, Q))), (P, ("learn", (NP,)))])
        self.assertEqual(paper, machine.refutation())

    def test_no_paper_after_yes(self):
        machine = machine_after(Question([P]), ("put", P, clause(0)), ("yes", (("p",), ())))
        self.assertRaises(NoPaper, machine.refutation)

    def test_chains_and_rings(self):
        far = most("x", "z", -2)
        near = complement(far)
        question = Question([near, NP], [near, NQ], [P, Q], [R, XY])
        machine = machine_after(question, ("decide", XY), ("decide", YZ), ("put", far, chain(XY, YZ)),
                                ("put", NP, at(question, near, NP)), ("put", NQ, at(question, near, NQ)), extra=[YZ])
        clash = at(question, P, Q)
        self.assertEqual(machine.clashes(), (clash,))
        outcome = clause_of([complement(XY), complement(YZ)])
        machine.do(("learn", clash, 3, outcome))
        paper = machine.paper_of(4)
        self.assertEqual(check_paper(question, paper), outcome)
        self.assertEqual(sorted(step[0] for step in paper), ["given", "given", "given", "learn", "ring"])
        word, _, first, rows = paper[-1]
        self.assertEqual([word, paper[first]], ["learn", ("given", (P, Q))])
        self.assertEqual([pivot for pivot, _ in rows], [Q, P, near])
        self.assertEqual(paper[rows[2][1]], ("ring", (XY, YZ, near), -1))

    def test_clash_rings(self):
        question = Question([XY, P], [YZ, P], [ZX, P])
        by = {told: number for number, told in enumerate(question.clauses)}
        machine = machine_after(question, ("decide", NP),
                                *[("put", bound, clause(by[(bound, P)])) for bound in (YZ, XY, ZX)])
        clash = ring(YZ, ZX, XY)
        machine.do(("learn", clash, 3, (P,)))
        paper = machine.paper_of(3)
        self.assertEqual(check_paper(question, paper), (P,))
        word, _, first, rows = paper[-1]
        self.assertEqual([word, paper[first]], ["learn", ("ring", (YZ, ZX, XY), -1)])
        self.assertEqual([pivot for pivot, _ in rows], [complement(bound) for bound in (ZX, XY, YZ)])
        self.assertEqual(len(paper), 5)

    def test_learnt_from_learnt(self):
        machine = machine_after(SQUARE, ("decide", P), ("put", Q, clause(ONLY_WITH)),
                                ("learn", clause(NOT_BOTH), 1, (NP,)), ("put", Q, clause(ANY)),
                                ("no", clause(NOT_ALONE)))
        self.assertEqual([step for step in machine.refutation() if step[0] == "learn"][0][:2], ("learn", (NP,)))
        self.assertEqual(machine.paper_of(4)[-1][:2], ("learn", (NP,)))

    def test_papers_of_forgotten_clauses(self):
        machine = forgetful_machine()
        self.assertEqual(check_paper(machine.question, machine.paper_of(6)), (no("a"), no("b"), no("c")))

    def test_a_ring_as_the_last_clash(self):
        machine = Machine(Question([XY], [YZ], [ZX]))
        for bound in (XY, YZ, ZX):
            machine.do(("put", bound, clause(machine.question.clauses.index((bound,)))))
        machine.do(("no", ring(YZ, ZX, XY)))
        paper = machine.refutation()
        self.assertEqual(check_paper(machine.question, paper), ())
        self.assertEqual(paper[paper[-1][2]], ("ring", (YZ, ZX, XY), -1))
        self.assertEqual([pivot for pivot, _ in paper[-1][3]], [complement(bound) for bound in (ZX, YZ, XY)])

    def test_errors_have_one_base(self):
        self.assertTrue(issubclass(NoPaper, RingclauseError))


if __name__ == "__main__":
    unittest.main()

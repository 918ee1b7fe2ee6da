"""Points 48 to 53: the desk."""

import random
import unittest

from ringclause.desk import Desk
from ringclause.editing import join_papers
from ringclause.errors import (
    InvalidClause, InvalidLimit, InvalidLiteral, InvalidRow, NothingPushed, NothingToRedo, NothingToUndo, NotKept)
from ringclause.literals import complement
from ringclause.papers import check_paper, givens
from ringclause.questions import Question
from ringclause.solving import solve
from tests.samples import HUGE, NO_LITERALS, PLAIN, Stubborn, most, no, yes
from tests.slowdesk import SlowDesk
from tests.test_editing import steps_needed

P, Q, R, S = yes("p"), yes("q"), yes("r"), yes("s")
NP, NQ, NR, NS = no("p"), no("q"), no("r"), no("s")
XY, YX = most("x", "y", -1), most("y", "x", -1)
# Asked with ~p first, these clauses teach p.
TEACHING = ([P, Q], [P, NQ])
NO_WIDTHS = [True, False, -1, -HUGE, None, "3", 3.0, (3,), [3], Stubborn()]


def told(desk):
    """All that a desk tells of its state."""
    papers = [desk.paper_of(clause) for clause, _ in desk.kept]
    return desk.question.clauses, desk.depth, desk.width, desk.kept, papers


class DeskCase(unittest.TestCase):
    def raises(self, error, value, call, *args, **more):
        with self.assertRaises(error) as caught:
            call(*args, **more)
        for held in vars(caught.exception).values():
            self.assertIs(held, value)

    def check_kept(self, desk):
        """Each kept clause has a right and cut paper, and is not wider than it may be."""
        for clause, _ in desk.kept:
            paper = desk.paper_of(clause)
            self.assertEqual(check_paper(desk.question, paper), clause)
            self.assertEqual(steps_needed(paper, len(paper) - 1), list(range(len(paper))))
            self.assertNotIn(clause, desk.question)
            self.assertLessEqual(len(clause), desk.width)
            self.assertTrue(set(Question(clause).atoms) <= set(desk.question.atoms))


class FramesTest(DeskCase):
    def test_example(self):
        desk = Desk()
        self.raises(NothingPushed, None, desk.drop)
        self.assertEqual(told(desk), ((), 0, 3, (), []))

    def test_several_frames(self):
        desk = Desk([P, Q], (R,))
        self.assertEqual([desk.question, desk.depth], [Question([P, Q], [R]), 0])
        for call in [desk.push, lambda: desk.tell([NP], [R], [NP, NP]), desk.push, lambda: desk.tell((NQ,)), desk.tell]:
            self.assertIsNone(call())
        self.assertEqual([desk.question, desk.depth], [Question([P, Q], [R], [NP], [NQ]), 2])
        self.assertIsNone(desk.drop())
        self.assertEqual([desk.question, desk.depth], [Question([P, Q], [R], [NP]), 1])
        desk.drop()
        # The clause that two frames had is still in the first one.
        self.assertEqual([desk.question, desk.depth], [Question([P, Q], [R]), 0])
        self.raises(NothingPushed, None, desk.drop)

    def test_a_clause_told_again_stays_in_the_lower_frame(self):
        desk = Desk([P])
        desk.push()
        desk.tell([P])
        desk.push()
        desk.tell([P], [Q])
        desk.drop()
        self.assertEqual(desk.question, Question([P]))
        desk.tell([Q])
        desk.drop()
        self.assertEqual(desk.question, Question([P]))

    def test_a_refused_tell_changes_nothing(self):
        desk = Desk([P])
        desk.push()
        before = told(desk)
        for value in PLAIN:
            self.raises(InvalidClause, value, desk.tell, [Q], value, [None])
            self.assertEqual(told(desk), before)
        for value in NO_LITERALS:
            self.raises(InvalidLiteral, value, desk.tell, [Q], [R, value], None)
            self.assertEqual(told(desk), before)
        desk.undo()
        self.raises(NothingToUndo, None, desk.undo)

    def test_errors_of_a_new_desk(self):
        for value in PLAIN:
            self.raises(InvalidClause, value, Desk, [Q], value, [None], width=-1)
        for value in NO_LITERALS:
            self.raises(InvalidLiteral, value, Desk, [Q], [R, value], width=None)
        for value in NO_WIDTHS:
            self.raises(InvalidLimit, value, Desk, [Q], width=value)

    def test_two_desks_do_not_touch_each_other(self):
        first, second = Desk(*TEACHING), Desk(*TEACHING)
        first.push()
        first.tell([R])
        first.ask(order=[NP])
        first.width = 5
        self.assertEqual(told(second), (Question(*TEACHING).clauses, 0, 3, (), []))
        self.raises(NothingToUndo, None, second.undo)
        self.assertEqual([first.depth, len(first.kept), first.width], [1, 1, 5])

    def test_what_is_given_is_copied(self):
        clause, order = [P, Q], [NP]
        desk = Desk(clause, [P, NQ])
        clause.append(R)
        self.assertEqual(desk.question, Question(*TEACHING))
        more = [NP]
        desk.push()
        desk.tell(more)
        more.append(S)
        verdict = desk.ask(order=order)
        order.append(Q)
        self.assertEqual([desk.question, verdict.word()], [Question(*TEACHING, [NP]), "no"])

    def test_what_is_returned_shares_nothing(self):
        desk = Desk(*TEACHING)
        verdict = desk.ask(order=[NP])
        for value in [desk.kept, desk.kept[0], desk.paper_of((P,)), verdict.log, verdict.suppositions, verdict.standing,
                      desk.run([("ask",)]), verdict.answer]:
            self.assertIsInstance(value, tuple)
        question = desk.question
        desk.tell([R])
        self.assertEqual(question, Question(*TEACHING))
        self.assertEqual(verdict.question, Question(*TEACHING))


class AskTest(DeskCase):
    def test_against_solve(self):
        desk = Desk([P, Q], [NP, R], width=0)
        for suppositions, order in [((), ()), ((NP,), ()), ((NR, NQ, NR), ()), ((P, S), [NR]), ((), [NP, NQ, NS])]:
            verdict, expected = desk.ask(*suppositions, order=order), solve(desk.question, *suppositions, order=order)
            self.assertEqual([verdict.lines(), verdict.log], [expected.lines(), expected.log])
            self.assertEqual(vars(verdict), vars(expected))

    def test_the_kept_clauses_are_in_the_search(self):
        desk = Desk(*TEACHING, [NP, R])
        first = desk.ask(order=[NP])
        self.assertEqual([first.word(), desk.kept], ["yes", (((P,), 0),)])
        second = desk.ask(order=[NP])
        self.assertEqual(second.log, solve(desk.question & Question([P]), order=[NP]).log)
        self.assertNotEqual(second.log, first.log)
        self.assertEqual([second.answer, second.standing], [first.answer, first.standing])
        self.assertEqual(second.lines()[0], f"clauses 3, suppositions 0, deeds {len(second.log)}")

    def test_the_paper_of_a_no(self):
        desk = Desk(*TEACHING, [NP, R])
        desk.ask(order=[NP])
        verdict = desk.ask(S, NR)
        self.assertEqual([verdict.word(), verdict.core, verdict.suppositions], ["no", (NR,), (S, NR)])
        self.assertEqual(check_paper(desk.question & Question.units(NR), verdict.paper), ())
        self.assertEqual(verdict.paper[-1][:2], ("learn", ()))
        self.assertNotIn(("given", (P,)), verdict.paper)
        self.assertIn(desk.paper_of((P,))[-1][:2], [step[:2] for step in verdict.paper])
        self.assertEqual(check_paper(desk.question, verdict.lifted()), (R,))

    def test_a_supposition_that_is_kept(self):
        desk = Desk(*TEACHING, [NP, R])
        desk.ask(order=[NP])
        verdict = desk.ask(P, NR)
        # The kept clause takes the place of the supposition, so the core does not need it.
        self.assertEqual([verdict.suppositions, verdict.core], [(P, NR), (NR,)])
        self.assertEqual(givens(verdict.paper), ((NP, R), (NQ, P), (NR,), (P, Q)))
        self.assertEqual(solve(desk.question, P, NR).core, (P, NR))

    def test_a_question_with_no_answer(self):
        desk = Desk([P, Q], [P, NQ], [NP, Q], [NP, NQ])
        verdict = desk.ask()
        self.assertEqual([verdict.word(), verdict.core, desk.kept], ["no", (), (((NP,), 0),)])
        again = desk.ask()
        self.assertEqual(check_paper(desk.question, again.paper), ())
        self.assertLess(len(again.log), len(verdict.log))

    def test_errors_change_nothing(self):
        desk = Desk(*TEACHING)
        before = told(desk)
        for value in NO_LITERALS:
            self.raises(InvalidLiteral, value, desk.ask, NP, value, None, order=[None])
            self.raises(InvalidLiteral, value, desk.ask, P, order=[NP, value, None])
        self.assertEqual(told(desk), before)
        self.raises(NothingToUndo, None, desk.undo)


class KeptTest(DeskCase):
    def test_order_and_papers(self):
        desk = Desk([NS, P, Q], [NS, P, NQ], [NS, NP, Q], [NS, NP, NQ], [R, S])
        verdict = desk.ask(order=[S])
        self.assertEqual(verdict.word(), "yes")
        self.assertEqual(desk.kept, (((NP, NS), 0), ((NS,), 0)))
        self.check_kept(desk)
        learnt = [deed[3] for deed in verdict.log if deed[0] == "learn"]
        self.assertEqual(learnt, [clause for clause, _ in desk.kept])

    def test_widths(self):
        clauses = [[no("a"), no("b"), NS, P, Q], [no("a"), no("b"), NS, P, NQ], [no("a"), no("b"), NS, NP, Q],
                   [no("a"), no("b"), NS, NP, NQ]]
        order = [S, yes("a"), yes("b")]
        learnt = [deed[3] for deed in solve(Question(*clauses), order=order).log if deed[0] == "learn"]
        self.assertEqual([len(clause) for clause in learnt], [4, 3])
        for width, kept in [(0, []), (1, []), (2, []), (3, learnt[1:]), (4, learnt), (6, learnt), (HUGE, learnt)]:
            desk = Desk(*clauses, width=width)
            desk.ask(order=order)
            self.assertEqual([clause for clause, _ in desk.kept], kept)
            self.check_kept(desk)
        self.assertEqual(Desk(*TEACHING, width=1).ask(order=[NP]).word(), "yes")

    def test_width_one(self):
        for width, kept in [(0, ()), (1, (((P,), 0),))]:
            desk = Desk(*TEACHING, width=width)
            desk.ask(order=[NP])
            self.assertEqual(desk.kept, kept)

    def test_atoms_that_the_question_does_not_have(self):
        # The bound of the supposition is no atom of the question, and the learnt clause has its complement.
        far, near = most("x", "z", -5), most("y", "z", 0)
        question = [[P, XY], [P, near], [Q, far, complement(far)]]
        desk = Desk(*question)
        verdict = desk.ask(most("z", "x", 0), order=[NP])
        learnt = [deed[3] for deed in verdict.log if deed[0] == "learn"]
        self.assertEqual([learnt, desk.kept], [[(most("x", "z", -1), P)], ()])
        wide = Desk(*question, [Q, most("z", "x", 0)])
        wide.ask(most("z", "x", 0), order=[NP])
        self.assertEqual(wide.kept, (((most("x", "z", -1), P), 0),))
        self.check_kept(wide)

    def test_pivots_of_other_atoms_may_stand_in_papers(self):
        # The order's bound is forced by a chain, stands in the clash ring, and is resolved away again.
        other = most("x", "z", -3)
        desk = Desk([P, XY], [P, most("y", "z", -2)], [most("z", "x", -1), complement(XY), most("z", "x", 1)],
                    [Q, most("x", "z", 0)])
        desk.ask(order=[NP, other])
        self.assertEqual(desk.kept, (((P,), 0),))
        self.check_kept(desk)
        pivots = [pivot for step in desk.paper_of((P,)) if step[0] == "learn" for pivot, _ in step[3]]
        self.assertIn(complement(other), pivots)
        self.assertNotIn(other, desk.question.atoms)

    def test_asked_again(self):
        desk = Desk(*TEACHING)
        desk.ask(order=[NP])
        paper = desk.paper_of((P,))
        for _ in range(3):
            desk.ask(order=[NP])
        self.assertEqual([desk.kept, desk.paper_of((P,))], [(((P,), 0),), paper])

    def test_equal_learnt_clauses_are_kept_once(self):
        # A clause that was forgotten at a restart may be learnt once more, with another number and paper.
        chance = random.Random(49)
        atoms = [yes(f"p{index}") for index in range(9)]
        again = 0
        for _ in range(250):
            chosen = [chance.sample(atoms, 3) for _ in range(chance.randrange(36, 44))]
            clauses = [[chance.choice([atom, complement(atom)]) for atom in clause] for clause in chosen]
            learnt = [deed[3] for deed in solve(Question(*clauses)).log if deed[0] == "learn"]
            if len(set(learnt)) < len(learnt):
                desk, slow = Desk(*clauses), SlowDesk(*clauses)
                for each in (desk, slow):
                    each.ask()
                kept = [clause for clause, _ in desk.kept]
                self.assertEqual(kept, [clause for clause in dict.fromkeys(learnt) if len(clause) <= 3])
                self.assertEqual([desk.paper_of(clause) for clause in kept], [row[2] for row in slow.kept])
                self.check_kept(desk)
                again += len([clause for clause in learnt if len(clause) <= 3]) > len(kept)
        self.assertGreater(again, 0)

    def test_depths(self):
        desk = Desk([P, Q], [R, S], [NP, R, S])
        desk.push()
        desk.tell([P, NQ])
        desk.push()
        desk.tell([Q, NS])
        desk.ask(order=[NP])
        self.assertEqual(desk.kept, (((P,), 1),))
        desk.drop()
        self.assertEqual(desk.kept, (((P,), 1),))
        desk.drop()
        self.assertEqual([desk.kept, desk.depth], [(), 0])

    def test_depths_of_atoms(self):
        # The given clauses are those of frame 0, but a bound of the chain occurs in frame 1 and above only.
        middle, far = most("y", "z", 0), most("x", "z", 0)
        desk = Desk([complement(far), P, Q], [complement(far), complement(middle), P, NQ])
        lowest = desk.question
        desk.push()
        desk.tell([XY, R])
        desk.push()
        desk.tell([complement(XY), S])
        desk.ask(order=[NP, XY, middle])
        clause = tuple(sorted([complement(XY), complement(middle), P]))
        self.assertEqual(desk.kept, ((clause, 1),))
        self.assertEqual(givens(desk.paper_of(clause)), lowest.clauses)
        self.check_kept(desk)
        desk.drop()
        self.assertEqual(desk.kept, ((clause, 1),))
        desk.drop()
        self.assertEqual(desk.kept, ())

    def test_many_depths(self):
        depths = []
        chance = random.Random(51)
        for _ in range(150):
            desk = Desk(*some_clauses(chance, 2), width=6)
            slow = SlowDesk(*desk.question.clauses, width=6)
            for _ in range(3):
                clauses = some_clauses(chance, 3)
                for each in (desk, slow):
                    each.push()
                    each.tell(*clauses)
            for each in (desk, slow):
                each.ask(order=[most("x", "y", -1), most("y", "z", 0), NP, NQ])
            self.assertEqual(desk.kept, tuple(row[:2] for row in slow.kept))
            self.check_kept(desk)
            depths += [depth for _, depth in desk.kept]
        for depth in range(4):
            self.assertIn(depth, depths)

    def test_tell_removes_what_becomes_a_clause(self):
        desk = Desk(*TEACHING)
        desk.ask(order=[NP])
        desk.push()
        desk.tell([P, S], [P])
        self.assertEqual(desk.kept, ())
        self.assertRaises(NotKept, desk.paper_of, (P,))
        desk.drop()
        self.assertEqual(desk.kept, ())

    def test_not_kept(self):
        desk = Desk(*TEACHING, [NP, Q, R])
        desk.ask(order=[NP])
        self.assertEqual(desk.kept, (((P,), 0),))
        for value in [*PLAIN, (), [], [P], P, (P, P), ([P],), (list(P),), (NP,), (P, Q), (Q,), ((P,),), (Stubborn(),)]:
            self.raises(NotKept, value, desk.paper_of, value)
        one = Desk([most("x", "y", 1), Q], [most("x", "y", 1), NQ])
        one.ask(order=[most("y", "x", -2)])
        self.assertEqual(one.kept, (((most("x", "y", 1),), 0),))
        for value in [(most("x", "y", True),), (most("x", "y", 1.0),), [most("x", "y", 1)]]:
            self.raises(NotKept, value, one.paper_of, value)

    def test_papers_join_kept_papers(self):
        t = yes("t")
        desk = Desk([NS, P, Q], [NS, P, NQ], [NS, NP, R, t], [NS, NP, R, complement(t)])
        desk.ask(order=[S, NP])
        self.assertEqual(desk.kept, (((NS, P), 0),))
        first = desk.paper_of((NS, P))
        verdict = desk.ask(order=[NR, S])
        self.assertEqual(desk.kept, (((NS, P), 0), ((NS, R), 0)))
        self.check_kept(desk)
        paper = desk.paper_of((NS, R))
        self.assertEqual(paper[:len(first)], first)
        self.assertEqual(givens(paper), desk.question.clauses)
        self.assertEqual([deed[3] for deed in verdict.log if deed[0] == "learn"], [(NS, R)])
        # The joined paper stays right without the clause that helped.
        desk.tell([NS, P])
        self.assertEqual([desk.kept, desk.paper_of((NS, R))], [(((NS, R), 0),), paper])


def some_clauses(chance, many, sizes=(2, 2, 3)):
    pool = [P, Q, R, XY, most("y", "z", 0), most("x", "z", chance.randrange(-2, 2))]
    return [[chance.choice([atom, complement(atom)]) for atom in chance.sample(pool, chance.choice(sizes))]
            for _ in range(many)]


class WidthTest(DeskCase):
    def test_the_usual_width(self):
        self.assertEqual([Desk.WIDTH, Desk().width, Desk(width=7).width, Desk().WIDTH], [3, 3, 7, 3])

    def test_assigned_and_changed(self):
        desk = Desk()
        for width in [0, 1, 3, 6, HUGE]:
            desk.width = width
            self.assertEqual(desk.width, width)
            self.assertIsNone(desk.change_width(width + 1))
            self.assertEqual(desk.width, width + 1)

    def test_wrong_widths(self):
        desk = Desk(*TEACHING)
        desk.ask(order=[NP])
        before = told(desk)
        for value in NO_WIDTHS:
            self.raises(InvalidLimit, value, desk.change_width, value)
            self.raises(InvalidLimit, value, setattr, desk, "width", value)
            self.raises(InvalidLimit, value, Desk, width=value)
        self.assertEqual(told(desk), before)
        self.raises(NothingToUndo, None, desk.undo)

    def test_a_less_width_removes_kept_clauses(self):
        clauses = [[NS, P, Q], [NS, P, NQ], [NS, NP, Q], [NS, NP, NQ]]
        for change in [lambda desk, width: desk.change_width(width), lambda desk, width: setattr(desk, "width", width)]:
            desk = Desk(*clauses)
            desk.ask(order=[S])
            self.assertEqual([clause for clause, _ in desk.kept], [(NP, NS), (NS,)])
            change(desk, 2)
            self.assertEqual(len(desk.kept), 2)
            change(desk, 1)
            self.assertEqual(desk.kept, (((NS,), 0),))
            change(desk, 5)
            self.assertEqual(desk.kept, (((NS,), 0),))
            change(desk, 0)
            self.assertEqual(desk.kept, ())
            for kept in [1, 1, 2, 2]:
                desk.undo()
                self.assertEqual(len(desk.kept), kept)
            self.raises(NothingToUndo, None, desk.undo)


class HistoryTest(DeskCase):
    def test_each_kind_of_step(self):
        desk = Desk([P, Q])
        steps = [desk.push, lambda: desk.tell([R]), lambda: desk.change_width(1), lambda: setattr(desk, "width", 5),
                 lambda: desk.run([("tell", (S,)), ("push",), ("width", 2)]), desk.drop, desk.drop]
        states = [told(desk)]
        for step in steps:
            step()
            states.append(told(desk))
        for _ in range(2):
            for state in states[-2::-1]:
                self.assertIsNone(desk.undo())
                self.assertEqual(told(desk), state)
            self.raises(NothingToUndo, None, desk.undo)
            for state in states[1:]:
                self.assertIsNone(desk.redo())
                self.assertEqual(told(desk), state)
            self.raises(NothingToRedo, None, desk.redo)

    def test_steps_that_change_nothing(self):
        desk = Desk([P])
        for step in [desk.tell, lambda: desk.tell([P]), lambda: desk.change_width(3), lambda: setattr(desk, "width", 3),
                     lambda: desk.run([]), lambda: desk.run(())]:
            step()
        for _ in range(6):
            desk.undo()
        self.raises(NothingToUndo, None, desk.undo)
        for _ in range(6):
            desk.redo()
        self.raises(NothingToRedo, None, desk.redo)

    def test_refused_calls_are_no_steps(self):
        desk = Desk([P])
        desk.tell([Q])
        desk.undo()
        for call in [lambda: desk.tell([None]), desk.drop, lambda: desk.change_width(-1), lambda: desk.ask(None),
                     lambda: desk.run([("push",), None]), lambda: desk.paper_of(())]:
            self.assertRaises(ValueError, call)
        self.raises(NothingToUndo, None, desk.undo)
        desk.redo()
        self.assertEqual(desk.question, Question([P], [Q]))

    def test_a_new_step_forgets_the_undone_ones(self):
        for step in [lambda desk: desk.push(), lambda desk: desk.tell(), lambda desk: desk.change_width(3),
                     lambda desk: desk.run([]), lambda desk: setattr(desk, "width", 3)]:
            desk = Desk()
            desk.tell([P])
            desk.tell([Q])
            desk.undo()
            step(desk)
            self.raises(NothingToRedo, None, desk.redo)
            desk.undo()
            self.assertEqual(desk.question, Question([P]))

    def test_an_ask_forgets_nothing(self):
        desk = Desk(*TEACHING)
        desk.tell([R])
        desk.undo()
        desk.ask(order=[NP])
        self.assertEqual(desk.kept, (((P,), 0),))
        desk.redo()
        self.assertEqual([desk.kept, len(desk.question)], [(), 3])

    def test_the_example_of_the_document(self):
        desk = Desk(*TEACHING, [R, S], [R, NS])
        desk.ask(order=[NP])
        kept = desk.kept
        self.assertEqual(kept, (((P,), 0),))
        desk.push()
        desk.undo()
        desk.ask(order=[NR])
        self.assertEqual(desk.kept, (((P,), 0), ((R,), 0)))
        desk.redo()
        self.assertEqual(desk.kept, kept)
        desk.undo()
        self.assertEqual(desk.kept, kept)

    def test_redo_restores_what_was_just_before_the_undo(self):
        desk = Desk(*TEACHING)
        desk.push()
        desk.ask(order=[NP])
        desk.undo()
        self.assertEqual([desk.depth, desk.kept], [0, ()])
        desk.redo()
        self.assertEqual([desk.depth, desk.kept], [1, (((P,), 0),)])
        paper = desk.paper_of((P,))
        desk.change_width(0)
        desk.undo()
        self.assertEqual([desk.kept, desk.paper_of((P,))], [(((P,), 0),), paper])

    def test_the_width_of_a_new_desk_is_no_step(self):
        self.raises(NothingToUndo, None, Desk(width=7).undo)
        self.raises(NothingToRedo, None, Desk(width=7).redo)


class RunTest(DeskCase):
    def test_every_kind_of_row(self):
        rows = [("tell", (P, Q), [NP]), ("ask",), ("push",), ("tell",), ("tell", [NQ]), ("ask",), ("ask", R, S),
                ("drop",),
                ("width", 1), ("ask", NQ), ("ask", Q, Q)]
        for given in [rows, tuple(rows)]:
            desk = Desk([R, S])
            words = desk.run(given)
            self.assertEqual(words, ("yes", "no", "no", "no", "yes"))
            self.assertEqual(told(desk)[:3], (Question([R, S], [P, Q], [NP]).clauses, 0, 1))
            desk.undo()
            self.assertEqual(told(desk), (((R, S),), 0, 3, (), []))
            self.raises(NothingToUndo, None, desk.undo)
            desk.redo()
            self.assertEqual(desk.width, 1)

    def test_an_empty_run(self):
        desk = Desk()
        for rows in [[], ()]:
            self.assertEqual(desk.run(rows), ())
        desk.undo()
        desk.undo()
        self.raises(NothingToUndo, None, desk.undo)

    def test_a_run_is_like_its_rows(self):
        first, second = Desk(*TEACHING), Desk(*TEACHING)
        first.run([("push",), ("ask", NP), ("ask", NQ), ("tell", [R, NP], [R, P]), ("ask", NR), ("width", 2)])
        second.push()
        second.ask(NP)
        second.ask(NQ)
        second.tell([R, NP], [R, P])
        second.ask(NR)
        second.width = 2
        self.assertEqual(told(first), told(second))

    def test_wrong_rows(self):
        wrong = [*PLAIN, (), [], ("push", 1), ("push", ()), ("drop", 1), ("width",), ("width", 1, 2), ["push"], ["ask"],
                 ["tell", [P]], ("Push",), ("undo",), ("redo",), ("run", []), (b"push",), (None,), (("push",),), ("",),
                 (Stubborn(),), ("widths", 1), ("change_width", 1), ["width", 1], (1, "width"), "push", ("redo", 1)]
        desk = Desk(*TEACHING)
        desk.push()
        desk.ask(order=[NP])
        desk.tell([R])
        desk.undo()
        before = told(desk)
        for value in wrong:
            for rows, index in [([value], 0), ((("push",), value, None), 1),
                                ([("drop",), ("tell", [S], [NQ]), ("width", 0), ("ask", NS), value], 4)]:
                with self.assertRaises(InvalidRow) as caught:
                    desk.run(rows)
                self.assertEqual(caught.exception.index, index)
                self.assertEqual(told(desk), before)
        desk.redo()
        desk.undo()
        desk.undo()
        self.raises(NothingToUndo, None, desk.undo)

    def test_refused_clauses_widths_and_suppositions(self):
        desk = Desk(*TEACHING)
        desk.tell([R])
        desk.ask(order=[NP])
        desk.undo()
        desk.ask(order=[NP])
        before = told(desk)
        begin = [("push",), ("tell", [NP]), ("ask",), ("width", 0), ("ask", NQ)]
        cases = [(InvalidClause, None, ("tell", [S], None, [7])), (InvalidLiteral, "p", ("tell", [S, "p"], None)),
                 (InvalidLimit, True, ("width", True)), (InvalidLiteral, 7, ("ask", P, 7, None)),
                 (NothingPushed, None, ("drop",))]
        for error, value, row in cases:
            rows = [*begin, *([("drop",)] if error is NothingPushed else []), row, ("never reached", 1)]
            self.raises(error, value, desk.run, rows)
            self.assertEqual(told(desk), before)
        for value in NO_WIDTHS:
            self.raises(InvalidLimit, value, desk.run, [*begin, ("width", value), None])
        for value in NO_LITERALS:
            self.raises(InvalidLiteral, value, desk.run, [*begin, ("ask", value)])
            self.raises(InvalidLiteral, value, desk.run, [*begin, ("tell", [], [P, value])])
        for value in PLAIN:
            self.raises(InvalidClause, value, desk.run, (*begin, ("tell", value)))
        self.assertEqual(told(desk), before)
        desk.redo()
        self.assertEqual(desk.question, Question(*TEACHING, [R]))

    def test_what_a_run_keeps_is_undone_with_it(self):
        desk = Desk([NS, P, Q], [NS, P, NQ], [NS, NP, Q], [NS, NP, NQ])
        desk.run([("ask",), ("ask", S)])
        kept = desk.kept
        desk.undo()
        self.assertEqual(desk.kept, ())
        desk.redo()
        self.assertEqual(desk.kept, kept)


class ChanceTest(DeskCase):
    def same(self, desk, slow):
        self.assertEqual(desk.question, slow.question)
        self.assertEqual([desk.depth, desk.width], [slow.depth, slow.width])
        self.assertEqual(desk.kept, tuple((clause, depth) for clause, depth, _ in slow.kept))
        for clause, _, paper in slow.kept:
            self.assertEqual(desk.paper_of(clause), paper)

    def ask(self, chance, desk, slow):
        pool = [literal for literal in (P, NP, Q, NQ, R, NR, XY, complement(XY), S, most("x", "z", -1))]
        suppositions = [chance.choice(pool) for _ in range(chance.choice([0, 0, 1, 2]))]
        order = chance.sample(pool, chance.randrange(6))
        question = desk.question
        verdict = desk.ask(*suppositions, order=order)
        log, paper = slow.ask(*suppositions, order=order)
        alone = solve(question, *suppositions, order=order)
        self.assertEqual([verdict.question, verdict.suppositions], [question, alone.suppositions])
        self.assertEqual([verdict.word(), verdict.log], [alone.word(), log])
        if paper is None:
            self.assertEqual([verdict.answer, verdict.standing], [alone.answer, alone.standing])
        else:
            self.assertEqual(verdict.paper, paper)
            self.assertEqual(check_paper(question & Question.units(*suppositions), paper), ())
            used = [clause for clause in givens(paper) if clause not in question]
            core = tuple(literal for literal in alone.suppositions if (literal,) in used)
            self.assertEqual(verdict.core, core)
            check_paper(question, verdict.lifted())
        return verdict.word()

    def test_against_a_slow_desk(self):
        chance = random.Random(52)
        most_kept = 0
        for _ in range(60):
            clauses, width = some_clauses(chance, 9, (3, 3, 4)), chance.choice([0, 1, 3, 3, 6])
            desk, slow = Desk(*clauses, width=width), SlowDesk(*clauses, width=width)
            for _ in range(25):
                self.one_deed(chance, desk, slow)
                self.same(desk, slow)
                self.check_kept(desk)
                most_kept = max(most_kept, len(desk.kept))
        self.assertGreater(most_kept, 2)

    def one_deed(self, chance, desk, slow):
        word = chance.choice(["push", "drop", "tell", "width", "undo", "redo"] + ["ask"] * 4)
        if word == "ask":
            self.ask(chance, desk, slow)
        elif word == "tell":
            clauses = some_clauses(chance, chance.randrange(1, 4), (2, 3, 3, 4))
            desk.tell(*clauses)
            slow.tell(*clauses)
        elif word == "width":
            width = chance.randrange(7)
            desk.change_width(width)
            slow.change_width(width)
        elif word == "drop" and slow.depth == 0:
            self.raises(NothingPushed, None, desk.drop)
        elif word == "undo" and not slow.history:
            self.raises(NothingToUndo, None, desk.undo)
        elif word == "redo" and not slow.undone:
            self.raises(NothingToRedo, None, desk.redo)
        else:
            getattr(desk, word)()
            getattr(slow, word)()


if __name__ == "__main__":
    unittest.main()

"""Points 24 to 26: cut, joined and lifted papers."""

import itertools
import random
import unittest

from ringclause.editing import cut_paper, join_papers, lift_paper
from ringclause.errors import WrongStep
from ringclause.literals import clause_holds, complement
from ringclause.papers import check_paper, clauses_of, first_wrong_step, givens
from ringclause.questions import Question
from ringclause.trying import tries
from tests.samples import PLAIN, Stubborn, most, no, yes
from tests.test_papers import CLAUSES, PAPER, some_paper

P, Q, R, S = yes("p"), yes("q"), yes("r"), yes("s")
NP, NQ, NR, NS = no("p"), no("q"), no("r"), no("s")
WRONG_PAPERS = [value for value in PLAIN] + [(), [], "given", {0: ("either", P)}, (("either", "p"),), ("either", P)]


def given(*clause):
    return ("given", clause)


def steps_needed(paper, end):
    """The indexes of the steps that the step `end` needs, itself among them."""
    needed, waiting = set(), [end]
    while waiting:
        index = waiting.pop()
        needed.add(index)
        if paper[index][0] == "learn":
            waiting.extend([paper[index][2], *[row[1] for row in paper[index][3]]])
    return sorted(needed)


class PaperCase(unittest.TestCase):
    def refused(self, index, call, *args):
        with self.assertRaises(WrongStep) as caught:
            call(*args)
        self.assertEqual(caught.exception.index, index)

    def all_needed(self, paper):
        self.assertEqual(steps_needed(paper, len(paper) - 1), list(range(len(paper))))


class CutTest(PaperCase):
    def test_all_steps_are_needed(self):
        paper = (given(NP, Q), given(P), ("learn", (Q,), 0, ((NP, 1),)))
        self.assertEqual(cut_paper(paper), paper)
        self.assertEqual(cut_paper(list(paper)), paper)
        self.assertIsInstance(cut_paper(list(paper)), tuple)

    def test_steps_before_between_and_behind(self):
        paper = (("either", Q), given(NP, Q), given(R), given(P), ("learn", (NP, Q), 1, ()),
                 ("learn", (Q,), 4, ((NP, 3),)), given(S), ("learn", (P,), 3, ()), ("either", S), given(NQ),
                 ("learn", (), 5, ((Q, 9),)))
        expected = (given(NP, Q), given(P), ("learn", (NP, Q), 0, ()), ("learn", (Q,), 2, ((NP, 1),)), given(NQ),
                    ("learn", (), 3, ((Q, 4),)))
        self.assertEqual(cut_paper(paper), expected)
        self.assertEqual(cut_paper(list(paper)), expected)

    def test_the_last_step_alone(self):
        for step in [given(P), ("either", P), ("ring", (most("x", "y", 0), most("y", "x", -1)), -1)]:
            self.assertEqual(cut_paper((step,)), (step,))
            self.assertEqual(cut_paper([given(P, Q), ("either", R), step]), (step,))

    def test_a_step_that_is_needed_twice_stands_once(self):
        paper = (given(R), given(NP, NQ), given(P, Q), ("learn", (NP, P), 1, ((NQ, 2),)),
                 ("learn", (NP, P), 3, ((P, 3),)))
        self.assertEqual(cut_paper(paper), (given(NP, NQ), given(P, Q), ("learn", (NP, P), 0, ((NQ, 1),)),
                                            ("learn", (NP, P), 2, ((P, 2),))))

    def test_equal_steps_are_not_put_together(self):
        paper = (given(NP), given(P), given(P), ("learn", (), 0, ((NP, 1),)), ("learn", (), 2, ((P, 0),)))
        self.assertEqual(cut_paper(paper), (given(NP), given(P), ("learn", (), 1, ((P, 0),))))

    def test_every_beginning_of_a_long_paper(self):
        for many in range(1, len(PAPER) + 1):
            cut = cut_paper(PAPER[:many])
            self.assertEqual(clauses_of(cut)[-1], CLAUSES[many - 1])
            self.all_needed(cut)

    def test_against_the_needed_steps(self):
        chance = random.Random(24)
        for _ in range(150):
            question, paper = some_paper(chance)
            cut = cut_paper(paper)
            needed = steps_needed(paper, len(paper) - 1)
            self.assertEqual(len(cut), len(needed))
            self.assertEqual([step[:2] for step in cut], [paper[index][:2] for index in needed])
            self.assertEqual(check_paper(question, cut), check_paper(question, paper))
            for step, index in zip(cut, needed):
                if step[0] == "learn":
                    self.assertEqual(needed[step[2]], paper[index][2])
                    self.assertEqual(tuple((pivot, needed[at]) for pivot, at in step[3]), paper[index][3])

    def test_wrong_papers(self):
        for value in WRONG_PAPERS:
            self.refused(0, cut_paper, value)
        self.refused(2, cut_paper, (given(P), given(Q), ("learn", (P,), 3, ()), given(NP, P, Q)))
        self.refused(1, cut_paper, [given(P), given(Q, P), given(Q)])
        self.refused(0, cut_paper, (Stubborn(), given(P)))


class JoinTest(PaperCase):
    def test_one_paper_is_cut(self):
        paper = (given(R), given(NP, Q), given(P), ("learn", (Q,), 1, ((NP, 2),)))
        for one in [paper, list(paper)]:
            self.assertEqual(join_papers(one), cut_paper(paper))
        self.assertEqual(join_papers((given(P),)), (given(P),))

    def test_an_outcome_takes_the_place_of_a_given_step(self):
        first = [given(NP, Q), given(P), ("learn", (Q,), 0, ((NP, 1),))]
        second = (given(NQ, R), given(Q), ("learn", (R,), 0, ((NQ, 1),)))
        self.assertEqual(join_papers(first, second), (
            given(NP, Q), given(P), ("learn", (Q,), 0, ((NP, 1),)), given(NQ, R), ("learn", (R,), 3, ((NQ, 2),))))

    def test_papers_that_are_not_needed(self):
        first, second, third = (given(P),), (given(R), ("learn", (R,), 0, ())), (given(Q), ("learn", (Q,), 0, ()))
        self.assertEqual(join_papers(first, second, third), third)

    def test_the_earliest_of_equal_outcomes_counts(self):
        first = (given(NP, Q), given(P), ("learn", (Q,), 0, ((NP, 1),)))
        second = (given(NR, Q), given(R), ("learn", (Q,), 0, ((NR, 1),)))
        last = (given(Q), given(NQ), ("learn", (), 0, ((Q, 1),)))
        end = (given(NQ), ("learn", (), 2, ((Q, 3),)))
        self.assertEqual(join_papers(first, second, last), (*first, *end))
        third = (given(NQ, R), given(R), ("learn", (NQ, R), 0, ()))
        self.assertEqual(join_papers(third, first, second, last), (*first, *end))

    def test_an_outcome_of_an_outcome(self):
        first = (given(P),)
        second = (given(NP, Q), given(P), ("learn", (Q,), 0, ((NP, 1),)))
        third = (given(P), given(Q), given(NP, NQ), ("learn", (), 2, ((NP, 0), (NQ, 1))))
        self.assertEqual(join_papers(first, second, third), (
            given(P), given(NP, Q), ("learn", (Q,), 1, ((NP, 0),)), given(NP, NQ),
            ("learn", (), 3, ((NP, 0), (NQ, 2)))))

    def test_later_and_own_outcomes_do_not_count(self):
        first = (given(Q), given(NQ, R), ("learn", (R,), 1, ((NQ, 0),)))
        second = (given(NP, Q), given(P), ("learn", (Q,), 0, ((NP, 1),)))
        third = (given(R), given(NR), ("learn", (), 0, ((R, 1),)))
        self.assertEqual(join_papers(first, second, third), (*first, given(NR), ("learn", (), 2, ((R, 3),))))
        own = (given(Q), ("learn", (Q,), 0, ()))
        self.assertEqual(join_papers(own), own)

    def test_only_given_steps_are_left_out(self):
        first = (given(NP, P),)
        second = (("either", P), ("learn", (NP, P), 0, ()))
        self.assertEqual(join_papers(first, second), second)

    def test_a_last_step_that_is_left_out(self):
        first = (given(NP, Q), given(P), ("learn", (Q,), 0, ((NP, 1),)))
        for last in [(given(Q),), (given(R), given(Q)), (given(NP, Q), ("either", R), given(Q))]:
            self.assertEqual(join_papers(first, last), first)
            self.assertEqual(join_papers((given(R),), first, (given(S),), last), first)
            self.assertEqual(join_papers(first, last, (given(Q), given(NQ), ("learn", (), 0, ((Q, 1),)))),
                             (*first, given(NQ), ("learn", (), 2, ((Q, 3),))))
        self.assertEqual(join_papers((given(Q),), (given(Q),), (given(Q),)), (given(Q),))

    def test_right_without_the_added_clauses(self):
        chance = random.Random(25)
        shared = 0
        for _ in range(120):
            question, paper = some_paper(chance)
            first = cut_paper(paper)
            outcome = clauses_of(first)[-1]
            added = question & Question(outcome)
            steps = [("given", outcome), *[("given", clause) for clause in question.clauses[:2]]]
            many = len(steps)
            steps += [self.moved(step, many) for step in first]
            steps.append(("learn", outcome, 0, ()))
            many = len(steps)
            for literal in outcome:
                # Resolved with an excluded middle, the clause stays what it is.
                steps += [("either", literal), ("learn", outcome, many - 1, ((literal, many),))]
                many = len(steps)
            self.assertEqual(check_paper(added, steps), outcome)
            joined = join_papers(first, steps)
            self.assertEqual(check_paper(question, joined), outcome)
            self.all_needed(joined)
            shared += outcome not in question
            twice = join_papers(first, steps, [("given", outcome), ("learn", outcome, 0, ())])
            self.assertEqual(check_paper(question, twice), outcome)
        self.assertGreater(shared, 40)

    def moved(self, step, by):
        if step[0] != "learn":
            return step
        return ("learn", step[1], step[2] + by, tuple((pivot, index + by) for pivot, index in step[3]))

    def test_wrong_papers(self):
        right, wrong, worse = (given(P),), [given(P), given(Q, P)], (("either", P), ("either", P), ("learn",))
        self.refused(1, join_papers, wrong)
        self.refused(1, join_papers, right, wrong, worse)
        self.refused(2, join_papers, right, worse, wrong)
        self.refused(2, join_papers, worse, None)
        for value in WRONG_PAPERS:
            self.refused(0, join_papers, value)
            self.refused(0, join_papers, right, value, worse)
            self.refused(0, join_papers, value, right)


class LiftTest(PaperCase):
    def test_example(self):
        paper = (given(P), given(NP, Q), ("learn", (Q,), 0, ((P, 1),)))
        self.assertEqual(lift_paper(paper, [P])[2], ("learn", (NP, Q), 0, ((P, 1),)))
        self.assertEqual(lift_paper(paper, [P])[:2], (("either", P), given(NP, Q)))

    def test_without_literals(self):
        for paper in [PAPER, list(PAPER), (given(P),)]:
            for literals in [(), []]:
                self.assertEqual(lift_paper(paper, literals), tuple(paper))

    def test_literals_that_no_step_gives(self):
        paper = (given(NP, Q), given(P), ("learn", (Q,), 0, ((NP, 1),)))
        for literals in [[Q], [NP], [R, NQ], [most("x", "y", 0)]]:
            self.assertEqual(lift_paper(paper, literals), paper)

    def test_several_literals_and_duplicates(self):
        x = most("x", "y", -1)
        paper = (given(P), given(NP, Q), given(x), ("learn", (Q,), 0, ((P, 1),)), given(NQ), ("either", R),
                 ("learn", (), 3, ((Q, 4),)))
        expected = (("either", P), given(NP, Q), ("either", x), ("learn", (NP, Q), 0, ((P, 1),)), given(NQ),
                    ("either", R), ("learn", (NP,), 3, ((Q, 4),)))
        for literals in [(P, x), [x, P, x, P, P], [x, P, S]]:
            self.assertEqual(lift_paper(paper, literals), expected)
        both = lift_paper(paper, (NQ, P))
        self.assertEqual(both[4], ("either", NQ))
        self.assertEqual(both[6], ("learn", (NP, Q), 3, ((Q, 4),)))

    def test_bounds(self):
        first, second, late, early = most("x", "y", -1), most("y", "x", -1), most("x", "y", 0), most("y", "x", 0)
        rows = ((late, 1), (early, 0))
        paper = (given(first), given(second), ("ring", (first, second), -2), ("learn", (), 2, rows))
        self.assertEqual(lift_paper(paper, [first]), (("either", first), *paper[1:3], ("learn", (early,), 2, rows)))
        self.assertEqual(lift_paper(paper, [second, first])[1:], (
            ("either", second), paper[2], ("learn", (late, early), 2, rows)))

    def test_the_literal_as_first_step_and_as_row(self):
        paper = (given(P), given(NP), ("learn", (), 0, ((P, 1),)), ("learn", (), 1, ((NP, 0),)))
        self.assertEqual(lift_paper(paper, [P]), (
            ("either", P), given(NP), ("learn", (NP,), 0, ((P, 1),)), ("learn", (NP,), 1, ((NP, 0),))))
        self.assertEqual(lift_paper(paper, [P, NP])[2:], (
            ("learn", (NP, P), 0, ((P, 1),)), ("learn", (NP, P), 1, ((NP, 0),))))

    def test_only_clauses_of_this_one_literal_change(self):
        paper = (given(P, Q), given(P), given(), ("either", P), ("learn", (), 2, ()))
        self.assertEqual(lift_paper(paper, [P, Q]), (given(P, Q), ("either", P), given(), ("either", P),
                                                     ("learn", (), 2, ())))

    def test_against_what_point_26_says(self):
        chance = random.Random(26)
        grown = 0
        for _ in range(200):
            question, paper = some_paper(chance)
            units = [clause[0] for clause in givens(paper) if len(clause) == 1]
            literals = chance.sample(units, chance.randrange(len(units) + 1)) + [R]
            lifted = lift_paper(paper, literals)
            less = question - Question.units(*literals)
            self.assertIsNone(first_wrong_step(less, lifted))
            self.assertEqual(len(lifted), len(paper))
            others = [complement(literal) for literal in literals]
            for step, old, clause, before in zip(lifted, paper, clauses_of(lifted), clauses_of(paper)):
                if old[0] == "given" and old[1] in [(literal,) for literal in literals]:
                    self.assertEqual(step, ("either", old[1][0]))
                elif old[0] == "learn":
                    self.assertEqual([step[0], *step[2:]], [old[0], *old[2:]])
                    self.assertTrue(set(before) <= set(clause))
                    self.assertTrue(set(clause) - set(before) <= set(others))
                    grown += clause != before
                else:
                    self.assertEqual(step, old)
        self.assertGreater(grown, 40)

    def test_the_lifted_outcome_holds_under_all_answers(self):
        early, late = most("x", "y", 0), most("y", "x", -1)
        question = Question([NP, Q], [NQ, early], [NR, late])
        paper = (given(P), given(NP, Q), given(early, NQ), given(R), given(late, NR), ("ring", (early, late), -1),
                 ("learn", (), 5, ((late, 2), (NQ, 1), (NP, 0), (early, 4), (NR, 3))))
        self.assertEqual(check_paper(question & Question.units(P, R), paper), ())
        lifted = lift_paper(paper, [R, P])
        outcome = check_paper(question, lifted)
        self.assertEqual(outcome, (NP, NR))
        self.assertTrue(all(clause_holds(outcome, values) for values in tries(question, 3)))

    def test_wrong_papers(self):
        for value in WRONG_PAPERS:
            self.refused(0, lift_paper, value, [P])
        self.refused(1, lift_paper, (given(P), ("learn", (Q,), 0, ()), None), (P,))


class UnchangedTest(unittest.TestCase):
    def test_arguments_are_not_changed(self):
        paper, literals = list(PAPER), [P, Q]
        for call in [lambda: cut_paper(paper), lambda: join_papers(paper, paper), lambda: lift_paper(paper, literals)]:
            self.assertIsInstance(call(), tuple)
            self.assertEqual([tuple(paper), literals], [PAPER, [P, Q]])

    def test_combinations_of_small_papers(self):
        papers = [(given(P),), (given(NP, Q),), (given(P), given(NP, Q), ("learn", (Q,), 0, ((P, 1),))),
                  (given(Q), given(NP, NQ), ("learn", (NP,), 0, ((Q, 1),))),
                  (given(NP), given(P), ("learn", (), 0, ((NP, 1),)))]
        for first, second, third in itertools.permutations(papers, 3):
            joined = join_papers(first, second, third)
            # A given step is replaced only if it stands behind the paper that has its clause as its outcome.
            outcomes = [clauses_of(paper)[-1] for paper in (first, second)]
            left = {*givens(first), *(set(givens(second)) - set(outcomes[:1])), *(set(givens(third)) - set(outcomes))}
            self.assertEqual(check_paper(Question(*left), joined), clauses_of(third)[-1])


if __name__ == "__main__":
    unittest.main()

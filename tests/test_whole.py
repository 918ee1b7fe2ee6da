"""Points 1 to 3 over the whole program: its interface, its examples, and that no call leaves a trace."""

import copy
import importlib
import inspect
import itertools
import random
import unittest

from ringclause.bench import Bench
from ringclause.chains import chain_sum, ring_sum
from ringclause.comparing import Apart, Same, compare
from ringclause.cores import Core, least_core
from ringclause.costs import Cheapest, cheapest
from ringclause.desk import Desk
from ringclause.editing import cut_paper, join_papers, lift_paper
from ringclause.errors import (
    HasAnswer, InvalidChain, InvalidClause, InvalidLimit, InvalidLiteral, InvalidName, InvalidPivot, InvalidRow,
    InvalidText, InvalidWeights, NoAnswer, NotAllowed, NothingPushed, NothingToUndo, NotKept, RingclauseError,
    UnknownLiteral, UnknownMoment, UnknownNumber, WrongStep)
from ringclause.fitting import Fit, Fitting, Short, Twins, fit, fit_question
from ringclause.gaps import Gap, gap_range, greatest_gap
from ringclause.hitting import least_hitting
from ringclause.literals import atom_of, atoms_of, clause_holds, clause_of, complement, holds, is_literal
from ringclause.logs import first_unplanned, first_wrong, read_log, write_log
from ringclause.machine import PACE, SPREAD, Machine
from ringclause.middles import Middle, between, middle_of
from ringclause.nets import Net
from ringclause.papers import check_paper, clauses_of, first_wrong_step, givens, resolve
from ringclause.papertexts import read_paper, write_paper
from ringclause.questions import Question
from ringclause.solving import solve
from ringclause.standings import standings
from ringclause.strategy import planned, preferred
from ringclause.survey import Survey, survey
from ringclause.texts import read_clause, read_literal, read_values, write_clause, write_literal, write_values
from ringclause.trying import reach, tries
from ringclause.verdicts import No, Verdict, Yes
from tests.cases import ProofCase
from tests.samples import most, no, yes
from tests.small import some_questions

P, Q, R = yes("p"), yes("q"), yes("r")
NP, NQ, NR = no("p"), no("q"), no("r")
XY, YZ = most("x", "y", 0), most("y", "z", -2)

# The functions of each file, and for each class what is defined in it.
INTERFACE = {
    "literals": (["is_literal", "complement", "atom_of", "atoms_of", "clause_of", "holds", "clause_holds"], {}),
    "texts": (["write_literal", "write_clause", "write_values", "read_literal", "read_clause", "read_values"], {}),
    "questions": ([], {"Question": ["__init__", "units", "read", "__and__", "__sub__", "__eq__", "__len__",
                                    "__contains__", "__call__", "__str__", "__repr__"]}),
    "trying": (["tries", "reach"], {}),
    "chains": (["chain_sum", "ring_sum"], {}),
    "nets": ([], {"Net": ["__init__", "most", "chain", "least", "carried", "implies", "__contains__", "__and__",
                          "__eq__", "__len__"]}),
    "papers": (["resolve", "first_wrong_step", "check_paper", "clauses_of", "givens"], {}),
    "editing": (["cut_paper", "join_papers", "lift_paper"], {}),
    "papertexts": (["write_paper", "read_paper"], {}),
    "machine": ([], {"Machine": ["__init__", "truth_of", "clause_at", "clashes", "forced", "resolved", "do",
                                 "paper_of", "refutation"]}),
    "strategy": (["planned", "preferred"], {}),
    "verdicts": ([], {"Verdict": ["__init__", "word", "lines"], "Yes": ["__init__", "word", "lines"],
                      "No": ["__init__", "word", "lines", "lifted"]}),
    "solving": (["solve"], {}),
    "hitting": (["least_hitting"], {}),
    "cores": (["least_core"], {"Core": ["__init__"]}),
    "desk": ([], {"Desk": ["__init__", "push", "drop", "tell", "change_width", "undo", "redo", "ask", "paper_of", "run",
                           "width", "WIDTH"]}),
    "standings": (["standings"], {}),
    "survey": (["survey"], {"Survey": ["__init__"]}),
    "gaps": (["greatest_gap", "gap_range"], {"Gap": ["__init__"]}),
    "costs": (["cheapest"], {"Cheapest": ["__init__"]}),
    "comparing": (["compare"], {"Same": ["__init__", "word"], "Apart": ["__init__", "word"]}),
    "middles": (["middle_of", "between"], {"Middle": ["__init__", "__call__"]}),
    "fitting": (["fit_question", "fit"], {"Fitting": ["word"], "Fit": ["__init__", "word"],
                                          "Twins": ["__init__", "word"], "Short": ["__init__", "word"]}),
    "logs": (["first_wrong", "first_unplanned", "write_log", "read_log"], {}),
    "bench": ([], {"Bench": ["__init__", "do", "undo", "redo", "options", "advance", "run", "snapshot"]}),
}
ATTRIBUTES = [
    (Question(), ["clauses", "atoms", "truths", "moments"]), (Net(), ["bounds", "moments", "ring"]),
    (Machine(Question()), ["question", "atoms", "pace", "spread", "trail", "level", "state", "restarts", "since",
                           "rank", "limit", "numbers", "learnt"]),
    (Verdict(Question(), (), ()), ["question", "suppositions", "log"]),
    (Yes(Question(), (), (), ((), ()), ()), ["question", "suppositions", "log", "answer", "standing"]),
    (No(Question(), (), (), (), ()), ["question", "suppositions", "log", "paper", "core"]),
    (Core((), 0, (), ()), ["positions", "weight", "paper", "barriers"]),
    (Desk(), ["question", "depth", "kept", "width"]), (Survey((), ()), ["sure", "unsure"]),
    (Gap(0, ((), ()), None, ()), ["greatest", "answer", "moving", "paper"]),
    (Cheapest(0, (), ((), ()), ()), ["cost", "held", "answer", "papers"]), (Same((), ()), ["forward", "backward"]),
    (Apart((), ((), ()), 1), ["standing", "answer", "side"]), (Middle((("all", ()),)), ["gates"]),
    (Fit(Question(), None), ["question", "paper"]), (Twins(0, 0), ["good", "bad"]), (Short(()), ["paper"]),
    (Bench(Question()), ["log", "trail", "level", "state", "rank", "limit", "learnt", "numbers"]),
]


class InterfaceTest(unittest.TestCase):
    def test_everything_is_defined_where_it_is_listed(self):
        for name, (functions, classes) in INTERFACE.items():
            module = importlib.import_module(f"ringclause.{name}")
            for function in functions:
                self.assertTrue(inspect.isfunction(getattr(module, function)), function)
                self.assertEqual(getattr(module, function).__module__, module.__name__)
            for known, members in classes.items():
                made = getattr(module, known)
                self.assertEqual([inspect.isclass(made), made.__module__], [True, module.__name__])
                for member in members:
                    self.assertIn(member, vars(made), known)

    def test_attributes(self):
        for made, attributes in ATTRIBUTES:
            for attribute in attributes:
                self.assertTrue(hasattr(made, attribute), attribute)

    def test_bases(self):
        for made, base in [(Yes, Verdict), (No, Verdict), (Fit, Fitting), (Twins, Fitting), (Short, Fitting)]:
            self.assertEqual(made.__bases__, (base,))

    def test_constants(self):
        self.assertEqual([PACE, SPREAD, Desk.WIDTH], [4, 2, 3])

    def test_keywords(self):
        machine = Machine(Question([P]), extra=(Q,), pace=1, spread=0)
        self.assertEqual([machine.pace, machine.spread, len(machine.atoms)], [1, 0, 2])
        self.assertEqual(Net(moments=["x"]).moments, ("x",))
        self.assertEqual(solve(Question(), P, order=[NQ], pace=1, spread=0).standing, (P, NQ))
        self.assertEqual(Desk(width=0).width, 0)
        self.assertEqual(Desk().ask(order=[NP]).standing, (NP,))
        self.assertIsNone(first_wrong(Question(), (), extra=[P], pace=1, spread=0))
        self.assertIsNone(first_unplanned(Question(), (), order=[P], pace=1, spread=0))
        self.assertEqual(Bench(Question(), extra=[P], pace=1, spread=0).options(), (("decide", P), ("decide", NP)))
        self.assertEqual(least_core(Question([]), [P], weights=[1]).positions, ())


class ExamplesTest(unittest.TestCase):
    def test_every_example_of_the_interface(self):
        self.assertEqual([complement(("most", "y", "x", 3)), atom_of(("no", "p"))],
                         [("most", "x", "y", -4), ("yes", "p")])
        self.assertEqual([read_clause("p | x-y<=-3 | p"), write_clause(())],
                         [(("most", "x", "y", -3), ("yes", "p")), "!"])
        question = Question.read("~p\np | x-y<=0")
        self.assertEqual([str(question), question.moments, question((("p",), (("x", 0), ("y", 5))))],
                         ["x-y<=0 | p\n~p", ("x", "y"), False])
        with self.assertRaises(InvalidText) as caught:
            Question.read("p\n")
        self.assertEqual(caught.exception.line, 2)
        net = Net(("most", "x", "y", -2), ("most", "y", "z", -1), moments=("w",))
        self.assertEqual([net.most("x", "z"), net.most("z", "x"), net.least(), net.carried("y")],
                         [-3, None, (("w", 0), ("x", 0), ("y", 2), ("z", 3)), ("y", "z")])
        self.assertEqual(Net(("most", "x", "y", -1), ("most", "y", "x", -1)).ring,
                         (("most", "y", "x", -1), ("most", "x", "y", -1)))
        self.assertEqual(resolve([("yes", "p"), ("yes", "q")], ("yes", "q"), [("no", "q"), ("no", "r")]),
                         (("no", "r"), ("yes", "p")))
        paper = (("given", (("yes", "p"),)), ("given", (("no", "p"), ("yes", "q"))),
                 ("learn", (("yes", "q"),), 0, ((("yes", "p"), 1),)))
        self.assertEqual(lift_paper(paper, [("yes", "p")])[2],
                         ("learn", (("no", "p"), ("yes", "q")), 0, ((("yes", "p"), 1),)))
        machine = Machine(Question.read("p | q\np | ~q\n~p | q\n~p | ~q"))
        self.assertEqual([machine.atoms, machine.rank, machine.limit], [(("yes", "p"), ("yes", "q")), 0, 189])
        verdict = solve(Question.read("~p\np | x-y<=0"), ("most", "y", "x", 4))
        self.assertEqual([verdict.answer, verdict.standing, len(verdict.log)], [
            ((), (("x", 0), ("y", 0))), (("most", "y", "x", 4), ("most", "x", "y", 0), ("no", "p")), 4])
        self.assertEqual(least_hitting([(0, 1), (1, 2)], (2, 3, 2)), (1,))
        self.assertRaises(NothingPushed, Desk().drop)
        self.assertEqual(gap_range(Question.read("x-y<=3"), "x", "y"), (None, 3))
        middle = between(Question.read("x-y<=0\ny-z<=0"), Question.read("z-x<=-1"))
        self.assertEqual([middle(((), (("x", 1), ("z", 1)))), middle(((), (("x", 2), ("z", 1))))], [True, False])
        self.assertEqual(read_log("decide p\nno : 3"), (("decide", ("yes", "p")), ("no", ("clause", 3))))


SQUARE = Question([P, Q], [P, NQ], [NP, Q], [NP, NQ])
WIDE = Question([P, Q, XY], [NP, R], [NQ, YZ], [NR, most("x", "z", 3)], [most("z", "x", 4), NR])
VALUES = (("p",), (("x", 1), ("y", 0), ("z", 5)))
PAPER = solve(SQUARE).paper
LOG = solve(SQUARE).log


def run_of_desk(rows):
    desk = Desk([P, Q], [P, NQ])
    return desk.run(rows), desk.kept, desk.question, desk.depth


def run_of_bench(deeds):
    bench = Bench(SQUARE)
    bench.run(deeds)
    bench.undo()
    return bench.log, bench.options(), bench.trail, bench.learnt


# Calls of all functions, with lists where they may stand.
CALLS = [
    (is_literal, [["yes", "p"]]), (complement, [P]), (atom_of, [NP]), (atoms_of, [[NP, XY, P]]),
    (clause_of, [[Q, P, Q]]), (holds, [XY, VALUES]), (clause_holds, [[P, XY], VALUES]),
    (write_literal, [XY]), (write_clause, [[P, XY]]), (write_values, [VALUES]), (read_literal, ["x-y<=3"]),
    (read_clause, ["q | p"]), (read_values, ["p x=3"]),
    (Question, [[P, Q], [XY, P]]), (Question.units, [P, XY]), (Question.read, ["p\nq | ~r"]),
    (str, [WIDE]), (repr, [WIDE]),
    (tries, [WIDE, 1]), (reach, [WIDE]), (chain_sum, [[XY, YZ]]), (ring_sum, [[XY, most("y", "x", 2)]]),
    (Net(XY, YZ).most, ["x", "z"]), (Net(XY, YZ).chain, ["x", "z"]), (Net(XY, YZ).least, []),
    (Net(XY, YZ).carried, ["y"]), (Net(XY, YZ).implies, [most("x", "z", 0)]),
    (resolve, [[P, Q], Q, [NQ, R]]), (first_wrong_step, [SQUARE, list(PAPER)]), (check_paper, [SQUARE, list(PAPER)]),
    (clauses_of, [list(PAPER)]), (givens, [list(PAPER)]), (cut_paper, [list(PAPER)]),
    (join_papers, [list(PAPER), list(PAPER)]), (lift_paper, [list(solve(SQUARE, P).paper), [P, Q, P]]),
    (write_paper, [list(PAPER)]), (read_paper, [write_paper(PAPER)]),
    (Machine(SQUARE).truth_of, [P]), (Machine(SQUARE).clause_at, [2]), (Machine(SQUARE).clashes, []),
    (Machine(SQUARE).forced, []), (Machine(SQUARE).resolved, [("clause", 0), 0]), (Machine(SQUARE).paper_of, [1]),
    (planned, [Machine(SQUARE), NQ, P]), (preferred, [(P, Q), [NQ, Q, R]]), (solve, [WIDE, P, XY]),
    (lambda order: solve(WIDE, order=order), [[NR, R, NQ]]), (lambda: solve(SQUARE, R).lifted(), []),
    (lambda: solve(SQUARE).lines(), []), (least_hitting, [[[1, 0, 1], [2, 1]], [2, 3, 2]]),
    (least_core, [WIDE, [P, most("x", "z", 9), most("z", "x", -9), NR], [1, 2, 3, 4]]),
    (run_of_desk, [[("push",), ("tell", [NP, R]), ("ask", NP), ("ask", NR), ("drop",), ("width", 1)]]),
    (standings, [WIDE, NQ, P]), (standings, [WIDE]), (survey, [WIDE]), (greatest_gap, [WIDE, "x", "y"]),
    (greatest_gap, [WIDE & Question([XY]), "x", "y"]), (gap_range, [WIDE, "x", "z"]),
    (cheapest, [WIDE, {P: 3, YZ: 2, NR: 1}]), (cheapest, [WIDE, {}]), (compare, [WIDE, WIDE & Question([P, R])]),
    (compare, [SQUARE, Question([])]),
    (middle_of, [Question([P, Q], [P, NQ]), Question([NP, Q], [NP, NQ]), list(PAPER)]),
    (between, [Question([P], [NP, Q]), Question([NQ])]), (Middle((("lit", XY), ("all", (0,)))), [VALUES]),
    (fit_question, [[VALUES], [((), VALUES[1])], [P, XY, P], 2]), (fit, [[VALUES], [((), VALUES[1])], [P, XY, P], 2]),
    (fit, [[VALUES], [VALUES], [P, XY], 2]), (fit, [[VALUES], [((), VALUES[1])], [P, XY], 0]),
    (first_wrong, [SQUARE, [*LOG, None]]), (first_unplanned, [SQUARE, [*LOG, None]]), (write_log, [list(LOG)]),
    (read_log, [write_log(LOG)]), (run_of_bench, [list(LOG)]),
]

# Calls that raise an error.
REFUSED = [
    (InvalidLiteral, complement, ["p"]), (InvalidLiteral, atoms_of, [[P, ["yes", "p"]]]),
    (InvalidClause, clause_of, [{}]),
    (UnknownMoment, holds, [most("x", "w", 0), VALUES]), (UnknownMoment, WIDE, [((), (("x", 0),))]),
    (InvalidLiteral, write_clause, [[P, 1]]), (InvalidText, read_clause, ["p |q"]), (InvalidText, read_values, ["q p"]),
    (InvalidText, Question.read, ["p\n"]), (InvalidLiteral, Question, [[P], [3]]),
    (InvalidChain, chain_sum, [[XY, XY]]),
    (InvalidChain, ring_sum, [[XY]]), (InvalidLiteral, Net, [XY, P]), (UnknownMoment, Net(XY).most, ["x", "w"]),
    (InvalidPivot, resolve, [[P], Q, [NQ]]), (WrongStep, check_paper, [WIDE, list(PAPER)]),
    (WrongStep, clauses_of, [[]]),
    (WrongStep, cut_paper, [[*PAPER, None]]), (WrongStep, join_papers, [list(PAPER), [None]]),
    (WrongStep, lift_paper, [[None], [P]]), (WrongStep, write_paper, [[None]]), (InvalidText, read_paper, [""]),
    (InvalidLimit, lambda: Machine(SQUARE, pace=0), []), (UnknownLiteral, Machine(SQUARE).truth_of, [R]),
    (UnknownNumber, Machine(SQUARE).clause_at, [4]), (NotAllowed, Machine(SQUARE).do, [["decide", P]]),
    (UnknownLiteral, planned, [Machine(SQUARE), R]), (InvalidLiteral, solve, [SQUARE, "p"]),
    (InvalidWeights, least_core, [SQUARE, [P, Q], [1]]), (HasAnswer, least_core, [WIDE, [P]]),
    (InvalidRow, run_of_desk, [[("push",), ("ask", NP), ["push"]]]), (NotKept, Desk().paper_of, [[P]]),
    (NoAnswer, survey, [SQUARE]), (UnknownMoment, greatest_gap, [SQUARE, "x", "y"]),
    (NoAnswer, gap_range, [SQUARE & Question([XY]), "x", "y"]), (InvalidLiteral, cheapest, [WIDE, {"p": 1}]),
    (InvalidWeights, cheapest, [WIDE, {P: 0}]), (NoAnswer, cheapest, [SQUARE, {P: 1}]),
    (WrongStep, middle_of, [SQUARE, WIDE, [*PAPER, None]]), (HasAnswer, between, [WIDE, Question([R])]),
    (UnknownMoment, Middle((("lit", XY),)), [((), (("x", 0),))]), (InvalidLiteral, fit_question, [[], [], [P, 2], 1]),
    (InvalidLimit, fit, [[], [], [P], -1]), (InvalidLimit, lambda: first_wrong(SQUARE, [], pace=0), []),
    (InvalidText, read_log, ["decide"]), (NotAllowed, run_of_bench, [[*LOG, ["decide", P]]]),
    (NothingToUndo, Bench(SQUARE).undo, []), (InvalidLimit, Bench(SQUARE).advance, [True, R]),
    (UnknownLiteral, Bench(SQUARE).advance, [0, R]), (InvalidName, lambda names: Net(XY, moments=names), [["w", 3]]),
]


def plain(value):
    """A value in a form that can be compared: objects by their attributes, generators by what they yield."""
    if inspect.isgenerator(value):
        return [plain(item) for item in itertools.islice(value, 20)]
    if isinstance(value, Question):
        return ("Question", value.clauses, value.atoms, value.truths, value.moments)
    if isinstance(value, (list, tuple)):
        return tuple(plain(item) for item in value)
    if isinstance(value, dict):
        return [(plain(key), plain(worth)) for key, worth in value.items()]
    if hasattr(value, "__dict__") and not inspect.isfunction(value):
        return (type(value).__name__, [(name, plain(held)) for name, held in vars(value).items()])
    return value


def owner_of(call):
    """The object whose method a call is."""
    return plain(getattr(call, "__self__", None)) if inspect.ismethod(call) else None


class TraceTest(ProofCase):
    def check_result(self, value):
        """What is returned can not be changed, apart from objects of the program's own classes."""
        if inspect.isgenerator(value):
            self.check_frozen(*itertools.islice(value, 20))
        elif value.__class__.__module__.startswith("ringclause."):
            held = [told for name, told in vars(value).items() if not name.startswith("_")]
            self.check_frozen(*[told for told in held if not isinstance(told, Question)])
        else:
            self.check_frozen(*[told for told in (value if isinstance(value, tuple) else [value])
                                if not isinstance(told, Question)])

    def test_no_argument_is_changed(self):
        for call, arguments in CALLS:
            before, owner = plain(copy.deepcopy(arguments)), owner_of(call)
            plain(call(*arguments))
            self.assertEqual(plain(arguments), before, call)
            self.assertEqual(owner_of(call), owner)

    def test_what_is_returned_can_not_be_changed(self):
        for call, arguments in CALLS:
            self.check_result(call(*arguments))

    def test_a_call_that_raises_changes_nothing(self):
        for error, call, arguments in REFUSED:
            before, owner = plain(copy.deepcopy(arguments)), owner_of(call)
            with self.assertRaises(error) as caught:
                call(*arguments)
            self.assertIsInstance(caught.exception, RingclauseError)
            self.assertIsInstance(caught.exception, ValueError)
            self.assertEqual(plain(arguments), before)
            self.assertEqual(owner_of(call), owner)

    def test_the_same_answers_at_the_end_as_at_the_beginning(self):
        first = [plain(call(*arguments)) for call, arguments in CALLS]
        order = list(range(len(CALLS)))
        random.Random(2).shuffle(order)
        for index in order:
            call, arguments = CALLS[index]
            self.assertEqual(plain(call(*arguments)), first[index])
        for _, call, arguments in REFUSED:
            self.assertRaises(RingclauseError, call, *arguments)
        for (call, arguments), expected in zip(CALLS, first):
            self.assertEqual(plain(call(*arguments)), expected)

    def test_lists_and_tuples_tell_the_same(self):
        for call, arguments in CALLS:
            tuples = [tuple(argument) if isinstance(argument, list) else argument for argument in arguments]
            if call is not is_literal:
                self.assertEqual(plain(call(*tuples)), plain(call(*arguments)), call)


class TogetherTest(ProofCase):
    def test_all_parts_tell_the_same(self):
        chance = random.Random(1)
        words = []
        for _ in range(60):
            question = some_questions(chance)
            verdict = solve(question)
            words.append(verdict.word())
            self.assertIsNone(first_wrong(question, read_log(write_log(verdict.log))))
            desk = Desk(*question.clauses)
            self.assertEqual(desk.ask().word(), verdict.word())
            bench = Bench(question)
            bench.advance(10 ** 9)
            self.assertEqual([bench.log, bench.state], [verdict.log, verdict.word()])
            found = list(standings(question))
            if verdict.word() == "no":
                self.assertEqual(found, [])
                self.assertEqual(compare(question, Question([])).word(), "same")
                self.assertRaises(NoAnswer, survey, question)
                half = Question(*question.clauses[::2])
                self.assertIsInstance(between(half, question - half), Middle)
                self.assertEqual(check_paper(question, read_paper(write_paper(verdict.paper))), ())
            else:
                self.assertEqual(found[0], (verdict.standing, verdict.answer))
                self.assertEqual(compare(question, Question([])).word(), "apart")
                settled = survey(question)
                for literal, _ in settled.sure:
                    self.assertTrue(all(literal in chosen for chosen, _ in found))
                self.assertEqual(cheapest(question, {}).answer, verdict.answer)
                self.assertRaises(HasAnswer, between, question, question)
                least = cheapest(question, {atom: 1 for atom in question.atoms})
                held = [[atom for atom in question.atoms if atom in chosen] for chosen, _ in found]
                self.assertEqual(list(least.held), min(held, key=lambda row: (len(row), row)))
        self.assertGreater(min(words.count("yes"), words.count("no")), 10)

    def test_limits(self):
        # 60 clauses of up to 12 literals, with 20 truths, 8 moments and 30 atoms.
        chance = random.Random(3)
        moments = "abcdefgh"
        pairs = list(itertools.combinations(moments, 2))
        bounds = [most(x, y, chance.choice([-1, 1]) * chance.randrange(10 ** 99)) for x, y in chance.sample(pairs, 10)]
        atoms = [yes(f"p{number}") for number in range(20)] + bounds
        clauses = [chance.sample(atoms, chance.choice([2, 3, 3, 4, 12])) for _ in range(60)]
        question = Question(*[[chance.choice([atom, complement(atom)]) for atom in clause] for clause in clauses])
        verdict = solve(question)
        self.assertEqual(verdict.word(), "yes")
        self.assertEqual(next(standings(question)), (verdict.standing, verdict.answer))
        settled = survey(question)
        self.assertEqual(len(settled.sure) + len(settled.unsure), len(question.atoms))
        for x, y in itertools.combinations(question.moments, 2):
            least, greatest = gap_range(question, x, y)
            self.assertTrue(least is None or greatest is None or least <= greatest)
        weights = {atom: at + 1 for at, atom in enumerate(question.atoms[::3][:12])}
        self.assertTrue(question(cheapest(question, weights).answer))
        self.assertEqual(compare(question, Question(*question.clauses)).word(), "same")
        told = Question([settled.unsure[0][0]])
        self.assertEqual(compare(question, question & told).word(), "apart")


if __name__ == "__main__":
    unittest.main()

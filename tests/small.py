"""Small questions and machines that are chosen by chance, and deeds to try on them."""

import itertools

from ringclause.literals import complement
from ringclause.machine import Machine
from ringclause.questions import Question
from tests.samples import most, yes
from tests.slow import (
    all_chains, clash_clause, free_literals, raised_times, slow_clashes, slow_forced, slow_resolved, true_bounds,
    true_literals)


def some_atoms(chance, truths, bounds, low=-2, high=2, moments="xyz"):
    atoms = [yes(name) for name in "pqrst"[:truths]]
    pairs = list(itertools.combinations(moments, 2))
    return atoms + [most(*chance.choice(pairs), chance.randrange(low, high)) for _ in range(bounds)]


def some_clause(chance, atoms, most_literals=3):
    chosen = chance.sample(atoms, min(len(atoms), chance.randrange(1, most_literals + 1)))
    return [chance.choice([atom, complement(atom)]) for atom in chosen]


def some_question(chance, truths=3, bounds=3, clauses=8, most_literals=3):
    """A small question with few enough atoms to search all standings."""
    atoms = some_atoms(chance, chance.randrange(truths + 1), chance.randrange(bounds + 1)) or [yes("p")]
    return Question(*[some_clause(chance, atoms, most_literals) for _ in range(chance.randrange(clauses + 1))])


def loose_question(chance):
    """A small question with so few clauses that it has many answers."""
    atoms = some_atoms(chance, chance.randrange(1, 4), chance.randrange(4))
    sizes = [chance.choice([1, 2, 2, 3]) for _ in range(chance.randrange(1, 6))]
    clauses = [chance.sample(atoms, min(len(atoms), size)) for size in sizes]
    return Question(*[[chance.choice([atom, complement(atom)]) for atom in clause] for clause in clauses])


def some_questions(chance):
    """A small question with many answers, few or none."""
    return chance.choice([some_question, loose_question, loose_question, dense_question])(chance)


def dense_question(chance):
    """A small question with so many clauses that answers are rare."""
    atoms = some_atoms(chance, chance.randrange(2, 5), chance.randrange(1, 5))
    return Question(*[some_clause(chance, atoms) for _ in range(chance.randrange(8, 20))])


def knotty_question(chance):
    """A small question without short clauses, so that its search meets clashes."""
    atoms = some_atoms(chance, chance.randrange(2, 6), chance.randrange(1, 5))
    clauses = [chance.sample(atoms, min(3, len(atoms))) for _ in range(chance.randrange(12, 30))]
    return Question(*[[chance.choice([atom, complement(atom)]) for atom in clause] for clause in clauses])


def some_machine(chance):
    question = chance.choice([some_question, dense_question, knotty_question])(chance)
    extra = [chance.choice([atom, complement(atom)]) for atom in some_atoms(chance, 2, 1)][:chance.randrange(4)]
    return Machine(question, extra=extra, pace=chance.randrange(1, 4), spread=chance.randrange(4))


def some_rings(machine):
    """Clashes of true bounds, also those that the machine does not list, and rings that are no clashes."""
    bounds = true_bounds(machine)
    rings = [ring for name in "xyz" for ring in all_chains(bounds, name, name, 3)]
    return [("ring", ring) for ring in rings][:12]


def tried_deeds(chance, machine):
    """Deeds of right forms, many of which are allowed."""
    free = free_literals(machine)
    literals = [literal for atom in machine.atoms for literal in (atom, complement(atom))]
    numbers = range(len(machine.question) + len(machine.learnt))
    deeds = [("restart",)] + [("put", *pair) for pair in slow_forced(machine)]
    deeds += [("decide", literal) for literal in [*free[:4], *chance.sample(literals, min(3, len(literals)))]]
    if numbers and literals:
        deeds += [("put", chance.choice(free or literals), ("clause", chance.choice(numbers))) for _ in range(6)]
    for bound in [literal for literal in free if literal[0] == "most"]:
        chains = all_chains(true_bounds(machine), bound[1], bound[2], 3)
        if chains:
            deeds.append(("put", bound, ("chain", chance.choice(chains))))
    clashes = [*slow_clashes(machine), *some_rings(machine)]
    clashes += [("clause", number) for number in chance.sample(numbers, min(3, len(numbers)))]
    for clash in clashes:
        deeds.append(("no", clash))
        if all(complement(literal) in true_literals(machine) for literal in clash_clause(machine, clash)):
            for steps in range(len(machine.trail) + 1):
                clause = slow_resolved(machine, clash, steps)
                if clause is not None:
                    deeds.append(("learn", clash, steps, clause))
    return deeds + [("yes", values) for values in some_values(chance, machine)]


def some_values(chance, machine):
    """Values with the names of the true truths and the moments of the atoms, or nearly so."""
    names = sorted(literal[1] for literal in true_literals(machine) if literal[0] == "yes")
    moments = sorted({name for atom in machine.atoms if atom[0] == "most" for name in atom[1:3]})
    table = raised_times(true_bounds(machine), moments) or {name: 0 for name in moments}
    shifted = {name: table[name] + chance.randrange(-1, 2) for name in moments}
    lowered = {name: table[name] - 9 for name in table}
    found = [(tuple(names), tuple(times.items())) for times in (table, shifted, lowered)]
    return found + [(tuple(names[1:]), tuple(table.items())), (tuple(names), tuple(table.items())[1:])]

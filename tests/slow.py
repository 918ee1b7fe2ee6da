"""Slow searches straight from the definitions, against which the program is held."""

import itertools

from ringclause.literals import atom_of, clause_of, complement


def all_chains(bounds, start, end, longest):
    """All chains from one moment to another with at most so many bounds, in no order."""
    found = []
    edges = [(bound,) for bound in bounds if bound[1] == start]
    for _ in range(longest):
        found.extend(chain for chain in edges if chain[-1][2] == end)
        edges = [(*chain, bound) for chain in edges for bound in bounds if bound[1] == chain[-1][2]]
    return found


def weight(chain):
    return (sum(bound[3] for bound in chain), len(chain), chain)


def slow_chain(bounds, start, end):
    """The best chain in a consistent set of bounds; one without a ring in it is among the best."""
    many = len({name for bound in bounds for name in bound[1:3]})
    found = all_chains(bounds, start, end, many)
    return min(found, key=weight) if found else None


def has_negative_ring(bounds):
    moments = {name for bound in bounds for name in bound[1:3]}
    return any(weight(ring)[0] < 0 for name in moments for ring in all_chains(bounds, name, name, len(moments)))


def slow_ring(bounds):
    for place, bound in enumerate(bounds):
        if has_negative_ring(bounds[:place + 1]):
            return (bound, *slow_chain(bounds[:place], bound[2], bound[1]))
    return None


def raised_times(bounds, moments):
    """The least integers of at least 0 that fulfil the bounds, as a dict; None if none do."""
    table = {name: 0 for name in moments}
    for _ in range(len(table) + 1):
        changed = False
        for _, x, y, k in bounds:
            if table[y] < table[x] - k:
                table[y] = table[x] - k
                changed = True
        if not changed:
            return table
    return None


def slow_standings(question, wanted):
    """The choices of the wanted literals or their complements, in order, that some answer fulfils, with least values.

    All atoms of the question are among those of the wanted literals.
    """
    moments = sorted({name for literal in wanted if literal[0] == "most" for name in literal[1:3]})
    for flips in itertools.product([False, True], repeat=len(wanted)):
        chosen = tuple(complement(literal) if flip else literal for literal, flip in zip(wanted, flips))
        if all(any(literal in chosen for literal in clause) for clause in question.clauses):
            times = raised_times([literal for literal in chosen if literal[0] == "most"], moments)
            if times is not None:
                names = tuple(sorted(literal[1] for literal in chosen if literal[0] == "yes"))
                yield chosen, (names, tuple(sorted(times.items())))


def slow_preferred(atoms, order):
    """The preferred list, straight from its definition."""
    first = [literal for place, literal in enumerate(order)
             if atom_of(literal) not in [atom_of(other) for other in order[:place]]]
    return first + [atom for atom in sorted(atoms) if atom not in [atom_of(literal) for literal in first]]


def slow_verdict(question, order=()):
    """The first standing, sorted by atoms, with its least values; None if the question has no answer."""
    atoms = sorted({*question.atoms, *[atom_of(literal) for literal in order]})
    for chosen, values in slow_standings(question, slow_preferred(atoms, list(order))):
        return tuple(sorted(chosen, key=atom_of)), values
    return None


def clash_clause(machine, clash):
    word, told = clash
    return machine.clause_at(told) if word == "clause" else clause_of([complement(bound) for bound in told])


def reason_clause(machine, entry):
    literal, _, (word, told) = entry
    if word == "clause":
        return machine.clause_at(told)
    return clause_of([literal, *[complement(bound) for bound in told]])


def true_literals(machine):
    return [entry[0] for entry in machine.trail]


def true_bounds(machine):
    return [literal for literal in true_literals(machine) if literal[0] == "most"]


def false_literals(machine):
    return [complement(literal) for literal in true_literals(machine)]


def free_literals(machine):
    settled = true_literals(machine) + false_literals(machine)
    return sorted(literal for atom in machine.atoms for literal in (atom, complement(atom)) if literal not in settled)


def level_of(machine, literal):
    return [entry[1] for entry in machine.trail if atom_of(entry[0]) == atom_of(literal)][0]


def slow_clashes(machine):
    gone = false_literals(machine)
    found = [("clause", number) for number in machine.numbers
             if all(literal in gone for literal in machine.clause_at(number))]
    ring = slow_ring(true_bounds(machine))
    return tuple(found if ring is None else [*found, ("ring", ring)])


def slow_forced(machine):
    if slow_clashes(machine):
        return ()
    free, gone, found = free_literals(machine), false_literals(machine), []
    for number in machine.numbers:
        clause = machine.clause_at(number)
        found += [(literal, ("clause", number)) for literal in clause
                  if literal in free and all(other in gone for other in clause if other != literal)]
    for bound in free:
        if bound[0] == "most":
            chain = slow_chain(true_bounds(machine), bound[1], bound[2])
            if chain is not None and sum(other[3] for other in chain) <= bound[3]:
                found.append((bound, ("chain", chain)))
    return tuple(found)


def is_slow_clash(machine, clash):
    word, told = clash
    if word == "clause":
        return told in machine.numbers and all(literal in false_literals(machine)
                                               for literal in machine.clause_at(told))
    return (all(bound in true_bounds(machine) for bound in told)
            and all(before[2] == after[1] for before, after in zip(told, [*told[1:], told[0]]))
            and sum(bound[3] for bound in told) < 0)


def slow_resolved(machine, clash, steps):
    """The clause of a clash that is resolved with so many steps, None if it can not be."""
    clause = clash_clause(machine, clash)
    for _ in range(steps):
        entries = [entry for entry in machine.trail if complement(entry[0]) in clause]
        if not entries or entries[-1][2] == ("decided",):
            return None
        literal = entries[-1][0]
        others = [other for other in reason_clause(machine, entries[-1]) if other != literal]
        clause = clause_of([*others, *[other for other in clause if other != complement(literal)]])
    return clause


def slow_asserting(machine, clause):
    levels = [level_of(machine, literal) for literal in clause]
    return bool(levels) and max(levels) >= 1 and levels.count(max(levels)) == 1


def is_slow_reason(machine, literal, reason):
    word, told = reason
    if word == "clause":
        clause = machine.clause_at(told)
        others = [other for other in clause if other != literal]
        return (told in machine.numbers and literal in clause
                and all(other in false_literals(machine) for other in others))
    if literal[0] != "most" or not all(bound in true_bounds(machine) for bound in told):
        return False
    return (all(before[2] == after[1] for before, after in zip(told, told[1:]))
            and (told[0][1], told[-1][2]) == literal[1:3] and sum(bound[3] for bound in told) <= literal[3])


def slow_allows(machine, deed):
    """Whether a deed of a right form, with literals and numbers that the machine has, is allowed."""
    word, *parts = deed
    if machine.state != "open":
        return False
    calm = not slow_clashes(machine)
    if word == "put":
        return calm and parts[0] in free_literals(machine) and is_slow_reason(machine, *parts)
    if word == "decide":
        return calm and parts[0] in free_literals(machine)
    if word == "learn":
        clash, steps, clause = parts
        return (is_slow_clash(machine, clash) and slow_resolved(machine, clash, steps) == clause
                and slow_asserting(machine, clause))
    if word == "restart":
        return calm and machine.level >= 1 and machine.since >= machine.pace * (machine.restarts + 1)
    if word == "yes":
        names, times = parts[0]
        bounds = true_bounds(machine)
        return (calm and not free_literals(machine)
                and names == tuple(sorted(name for name in names if ("yes", name) in true_literals(machine)))
                and len(names) == [literal[0] for literal in true_literals(machine)].count("yes")
                and [name for name, _ in times] == sorted({name for bound in bounds for name in bound[1:3]})
                and all(dict(times)[x] - dict(times)[y] <= k for _, x, y, k in bounds))
    return is_slow_clash(machine, parts[0]) and all(
        level_of(machine, literal) == 0 for literal in clash_clause(machine, parts[0]))


def state_of(machine):
    """All that a machine tells about its state, apart from what follows from it."""
    return {"trail": machine.trail, "numbers": machine.numbers, "learnt": machine.learnt, "state": machine.state,
            "restarts": machine.restarts, "since": machine.since}


def state_after(machine, deed):
    """The state that an allowed deed leads to; the machine has not done it yet."""
    word, *parts = deed
    told = state_of(machine)
    if word == "put":
        told["trail"] += ((parts[0], machine.level, parts[1]),)
    elif word == "decide":
        told["trail"] += ((parts[0], machine.level + 1, ("decided",)),)
    elif word == "learn":
        clause = parts[2]
        number = len(machine.question) + len(machine.learnt)
        levels = {literal: level_of(machine, literal) for literal in clause}
        literal = max(clause, key=levels.get)
        back = max([0, *[level for other, level in levels.items() if other != literal]])
        told["trail"] = (*[entry for entry in machine.trail if entry[1] <= back], (literal, back, ("clause", number)))
        told["numbers"] += (number,)
        told["learnt"] += ((number, clause, len(set(levels.values()))),)
        told["since"] += 1
    elif word == "restart":
        told["trail"] = tuple(entry for entry in machine.trail if entry[1] == 0)
        reasons = [entry[2] for entry in told["trail"]]
        gone = [number for number, _, spread in machine.learnt
                if spread > machine.spread and ("clause", number) not in reasons]
        told["numbers"] = tuple(number for number in machine.numbers if number not in gone)
        told["restarts"] += 1
        told["since"] = 0
    else:
        told["state"] = word
    return told


def slow_rank(machine):
    many = len(machine.atoms)
    base = (many + 1) ** (many + 1)
    levels = [entry[1] for entry in machine.trail]
    inner = sum(levels.count(level) * (many + 1) ** (many - level) for level in range(machine.level + 1))
    return machine.restarts * base + inner, ((base - 1) // machine.pace + 1) * base

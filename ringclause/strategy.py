"""The strategy: which deed of a machine is done next."""

from ringclause.literals import atom_of, moments_of, opposite, truths_of
from ringclause.nets import net_of


def planned(machine, *order):
    """The next deed, None if the machine has ended; the literals of `order` are decided first."""
    for literal in order:
        machine.truth_of(literal)
    if machine.state != "open":
        return None
    if machine.clashes():
        return deeds_at_clash(machine, machine.clashes()[0])[0]
    if machine.allows(("restart",)):
        return ("restart",)
    if machine.forced():
        return puts_of(machine)[0]
    free = [literal for literal in preferred(machine.atoms, order) if machine.truth_of(literal) == "free"]
    return ("decide", free[0]) if free else end_of(machine)


def options_of(machine):
    """Deeds that are allowed now, at least one while the machine has not ended."""
    if machine.state != "open":
        return ()
    if machine.clashes():
        return tuple([deed for clash in machine.clashes() for deed in deeds_at_clash(machine, clash)])
    free = [atom for atom in machine.atoms if machine.truth_of(atom) == "free"]
    decides = [("decide", literal) for atom in free for literal in (atom, opposite(atom))]
    restarts = [("restart",)] if machine.allows(("restart",)) else []
    ends = [] if free else [end_of(machine)]
    return (*puts_of(machine), *decides, *restarts, *ends)


def deeds_at_clash(machine, clash):
    """The end with a clash if nothing was decided before it, else all asserting clauses of it."""
    end = ("no", clash)
    if machine.allows(end):
        return [end]
    clauses = machine.resolutions(clash)
    return [("learn", clash, steps, clause) for steps, clause in enumerate(clauses) if machine.is_asserting(clause)]


def puts_of(machine):
    """The deeds that put the forced literals."""
    return [("put", literal, reason) for literal, reason in machine.forced()]


def end_of(machine):
    """The end with yes of a machine that has every atom on its trail and no clash."""
    literals = [entry[0] for entry in machine.trail]
    return ("yes", least_values(literals, moments_of(machine.atoms)))


def preferred(atoms, order):
    """The literals of `order`, one for each atom, and then the remaining atoms."""
    chosen = {}
    for literal in [*order, *atoms]:
        chosen.setdefault(atom_of(literal), literal)
    return tuple(chosen.values())


def least_values(literals, moments):
    """The values with the true truths of consistent literals, and the least times that their bounds allow."""
    names = truths_of([literal for literal in literals if literal[0] == "yes"])
    net = net_of(literals, moments)
    return (names, net.least())

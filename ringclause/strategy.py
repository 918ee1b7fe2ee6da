"""The strategy: which deed of a machine is done next."""

from ringclause.literals import atom_of, is_bound, moments_of, truths_of
from ringclause.nets import Net


def planned(machine, *order):
    """The next deed, None if the machine has ended; the literals of `order` are decided first."""
    for literal in order:
        machine.truth_of(literal)
    if machine.state != "open":
        return None
    if machine.clashes():
        return planned_at_clash(machine, machine.clashes()[0])
    if machine.allows(("restart",)):
        return ("restart",)
    if machine.forced():
        literal, reason = machine.forced()[0]
        return ("put", literal, reason)
    free = [literal for literal in preferred(machine.atoms, order) if machine.truth_of(literal) == "free"]
    if free:
        return ("decide", free[0])
    literals = [entry[0] for entry in machine.trail]
    return ("yes", least_values(literals, moments_of(machine.atoms)))


def planned_at_clash(machine, clash):
    """The end with a clash if nothing was decided before it, else the first asserting clause of it."""
    end = ("no", clash)
    if machine.allows(end):
        return end
    clauses = machine.resolutions(clash)
    asserting = [steps for steps, clause in enumerate(clauses) if machine.is_asserting(clause)]
    return ("learn", clash, asserting[0], clauses[asserting[0]])


def preferred(atoms, order):
    """The literals of `order`, one for each atom, and then the remaining atoms."""
    chosen = {}
    for literal in [*order, *atoms]:
        chosen.setdefault(atom_of(literal), literal)
    return tuple(chosen.values())


def least_values(literals, moments):
    """The values with the true truths of consistent literals, and the least times that their bounds allow."""
    bounds = [literal for literal in literals if is_bound(literal)]
    names = truths_of([literal for literal in literals if literal[0] == "yes"])
    net = Net(*bounds, moments=moments)
    return (names, net.least())

"""Chains and rings of bounds."""

from ringclause.errors import InvalidChain
from ringclause.literals import is_bound


def is_chain(value):
    """True if the value is a list or tuple of bounds, each of which goes on where the one before it ends."""
    if not isinstance(value, (list, tuple)) or len(value) == 0:
        return False
    if not all([is_bound(item) for item in value]):
        return False
    return all([before[2] == after[1] for before, after in zip(value, value[1:])])


def is_ring(value):
    """True if the value is a chain from a moment to itself."""
    return is_chain(value) and value[0][1] == value[-1][2]


def total_of(bounds):
    """The sum of the integers of bounds."""
    return sum([bound[3] for bound in bounds])


def chain_sum(bounds):
    """The triple of the first moment, the last moment and the sum of a chain."""
    if not is_chain(bounds):
        raise InvalidChain(bounds)
    return (bounds[0][1], bounds[-1][2], total_of(bounds))


def ring_sum(bounds):
    """The sum of a ring."""
    if not is_ring(bounds):
        raise InvalidChain(bounds)
    return total_of(bounds)

"""Nets: sets of bounds that are asked together."""

from ringclause.errors import Inconsistent, InvalidLiteral, InvalidName, UnknownMoment
from ringclause.literals import is_bound, is_name, moments_of
from ringclause.ways import best_way, ring_and_ways


class Net:
    """A set of bounds, in the order in which they were given, with their moments and further ones."""

    def __init__(self, *bounds, moments=()):
        for bound in bounds:
            check_bound(bound)
        for name in moments:
            if not is_name(name):
                raise InvalidName(name)
        firsts = {bound: True for bound in bounds}
        names = moments_of(bounds) + tuple(moments)
        self.bounds = tuple(firsts)
        self.moments = tuple(sorted(set(names)))
        self.ring, self._ways = ring_and_ways(self.bounds, self.moments)
        self._meaning = meaning_of(self.ring, self._ways)

    def most(self, x, y):
        """The greatest value of `x` minus `y`, None if there is none."""
        self._check(x, y)
        way = best_way(self._ways, x, y)
        return None if way is None else way[0]

    def chain(self, x, y):
        """The best chain from `x` to `y`, None if there is none."""
        self._check(x, y)
        way = best_way(self._ways, x, y)
        return None if way is None else way[2]

    def least(self):
        """The least integers of all moments, of at least 0, that fulfil the net."""
        self._check()
        return tuple([(name, self._least_of(name)) for name in self.moments])

    def carried(self, x):
        """The moments that can rise together with `x` by any integer: `x`, and those to which it has a chain."""
        self._check(x)
        return tuple([name for name in self.moments if best_way(self._ways, x, name) is not None])

    def implies(self, bound):
        """Whether the bound holds under all values that fulfil the net."""
        check_bound(bound)
        if self.ring is not None:
            return True
        _, first, second, limit = bound
        way = best_way(self._ways, first, second)
        # A moment that the net has not is free, so it has no way.
        return way is not None and way[0] <= limit

    def __contains__(self, bound):
        return self.implies(bound)

    def __and__(self, other):
        names = self.moments + other.moments
        return Net(*self.bounds, *other.bounds, moments=names)

    def __eq__(self, other):
        return isinstance(other, Net) and self.moments == other.moments and self._meaning == other._meaning

    def __len__(self):
        return len(self.bounds)

    def _check(self, *names):
        """Raise Inconsistent, or UnknownMoment for the first of the names that is not a moment of the net."""
        if self.ring is not None:
            raise Inconsistent(self.ring)
        for name in names:
            if name not in self.moments:
                raise UnknownMoment(name)

    def _least_of(self, name):
        """The least integer of a moment, which the other moments push up; its own empty way keeps it at 0 or above."""
        ways = [best_way(self._ways, other, name) for other in self.moments]
        return max([-way[0] for way in ways if way is not None])


def net_of(literals, moments):
    """The net of the bounds among literals, with further moments."""
    bounds = [literal for literal in literals if is_bound(literal)]
    return Net(*bounds, moments=moments)


def check_bound(value):
    """Raise InvalidLiteral if the value is not a bound."""
    if not is_bound(value):
        raise InvalidLiteral(value)


def meaning_of(ring, ways):
    """What two nets with the same moments have in common if they are equal: the sums of the ways, None with a ring."""
    if ring is not None:
        return None
    return {pair: ways[pair][0] for pair in ways}

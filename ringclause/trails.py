"""The trail of a machine: which literals are true, since which level and why."""

from ringclause.literals import is_bound, opposite
from ringclause.ways import best_way, no_ring, ring_and_ways_with


class Trail:
    """Entries (literal, level, reason), with the ring and the best chains of the true bounds.

    Levels never fall along the entries, so those above a level stand at the end.
    """

    def __init__(self, moments):
        self.entries = ()
        self.level = 0
        self._moments = moments
        self._false = {}
        self._places = {}
        # One for the empty trail and one behind each entry, so that leaving entries is cheap.
        self._known = [no_ring()]

    def enter(self, literal, level, reason):
        """Append an entry; its literal is free, its level at least the current one."""
        other = opposite(literal)
        self._false[other] = True
        self._places[literal] = self._places[other] = len(self.entries)
        self.entries = (*self.entries, (literal, level, reason))
        self.level = level
        known = self._known[-1]
        if is_bound(literal):
            known = ring_and_ways_with(known, self._moments, literal)
        self._known.append(known)

    def leave(self, level):
        """Remove the entries above the level."""
        kept = [entry for entry in self.entries if entry[1] <= level]
        for entry in self.entries[len(kept):]:
            literal = entry[0]
            other = opposite(literal)
            del self._false[other]
            del self._places[literal]
            del self._places[other]
        del self._known[len(kept) + 1:]
        self.entries = tuple(kept)
        self.level = kept[-1][1] if kept else 0

    def is_false(self, literal):
        """True if its complement is on the trail."""
        return literal in self._false

    def is_free(self, literal):
        """True if neither the literal nor its complement is on the trail."""
        return literal not in self._places

    def is_true(self, literal):
        """True if the literal is on the trail."""
        return not self.is_free(literal) and not self.is_false(literal)

    def left_of(self, clause):
        """The literals of a clause that are not false."""
        return [literal for literal in clause if literal not in self._false]

    def place_of(self, literal):
        """The place of the entry for the atom of a literal that is not free."""
        return self._places[literal]

    def entry_of(self, literal):
        """The entry for the atom of a literal that is not free."""
        return self.entries[self._places[literal]]

    def level_of(self, literal):
        """The level of a literal that is not free."""
        return self.entry_of(literal)[1]

    def negative_ring(self):
        """The ring of the net of the true bounds in trail order, None if it is consistent."""
        return self._known[-1][0]

    def chain_for(self, bound):
        """The best chain of the true bounds, if they are consistent, that forces a bound, None if there is none."""
        _, first, second, limit = bound
        way = best_way(self._known[-1][1], first, second)
        return None if way is None or way[0] > limit else way[2]

"""The trail of a machine: which literals are true, since which level and why."""

from ringclause.literals import is_bound, opposite
from ringclause.ways import best_way, no_ring, ring_and_ways_with


class Trail:
    """Entries (literal, level, reason), with the ring and the best chains of the true bounds; never changed.

    Levels never fall along the entries, so those above a level stand at the end.
    """

    def __init__(self, moments, entries, told, known):
        self.entries = entries
        self.level = entries[-1][1] if entries else 0
        self._moments = moments
        # What is true, and the places of the entries that make literals false.
        self._true, self._false = told
        # The ring and the ways for the empty trail and behind each entry, so that leaving entries is cheap.
        self._known = known

    def with_entry(self, literal, level, reason):
        """The trail with one more entry; its literal is free, its level at least the current one."""
        told = (extended(self._true, literal, True), extended(self._false, opposite(literal), len(self.entries)))
        known = self._known[-1]
        if is_bound(literal):
            known = ring_and_ways_with(known, self._moments, literal)
        return Trail(self._moments, (*self.entries, (literal, level, reason)), told, (*self._known, known))

    def up_to(self, level):
        """The trail without the entries above the level."""
        kept = [entry for entry in self.entries if entry[1] <= level]
        true = {entry[0]: True for entry in kept}
        false = {opposite(entry[0]): place for place, entry in enumerate(kept)}
        return Trail(self._moments, tuple(kept), (true, false), self._known[:len(kept) + 1])

    def is_false(self, literal):
        """True if its complement is on the trail."""
        return literal in self._false

    def is_true(self, literal):
        """True if the literal is on the trail."""
        return literal in self._true

    def is_free(self, literal):
        """True if neither the literal nor its complement is on the trail."""
        return literal not in self._true and literal not in self._false

    def left_of(self, clause):
        """The literals of a clause that are not false."""
        return [literal for literal in clause if literal not in self._false]

    def place_of(self, literal):
        """The place of the entry for the atom of a false literal."""
        return self._false[literal]

    def level_of(self, literal):
        """The level of a false literal."""
        return self.entries[self.place_of(literal)][1]

    def negative_ring(self):
        """The ring of the net of the true bounds in trail order, None if it is consistent."""
        return self._known[-1][0]

    def chain_for(self, bound):
        """The best chain of the true bounds, if they are consistent, that forces a bound, None if there is none."""
        _, first, second, limit = bound
        way = best_way(self._known[-1][1], first, second)
        return None if way is None or way[0] > limit else way[2]


def empty_trail(moments):
    """The trail without entries; `moments` has those of all bounds that may enter it."""
    return Trail(moments, (), ({}, {}), (no_ring(),))


def extended(table, key, value):
    """A copy of a dict with one more item."""
    copy = {known: table[known] for known in table}
    copy[key] = value
    return copy

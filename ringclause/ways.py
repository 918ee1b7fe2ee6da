"""Best chains between all pairs of moments.

A way is a triple (sum, number of bounds, bounds) of a chain, so that the least way is the best chain. Ways are kept
in a dict from pairs of two different moments. The empty way goes from each moment to itself and is not kept.
"""

EMPTY_WAY = (0, 0, ())


def best_way(ways, start, end):
    """The best way from one moment to another, or None."""
    if start == end:
        return EMPTY_WAY
    return ways.get((start, end))


def ways_with(ways, moments, bound):
    """The best ways of consistent bounds that are one bound more than those of `ways`.

    No ring is negative, so a best way passes the new bound at most once: it is an old one, or an old one to the bound,
    the bound, and an old one from it.
    """
    _, first, second, limit = bound
    old = best_way(ways, first, second)
    # Every way over the bound has then a lesser one over the old way.
    if old is not None and old[0] < limit:
        return ways
    grown = {pair: ways[pair] for pair in ways}
    for start in moments:
        before = best_way(ways, start, first)
        for end in moments:
            after = best_way(ways, second, end)
            if start != end and before is not None and after is not None:
                total = before[0] + limit + after[0]
                chain = (*before[2], bound, *after[2])
                way = (total, len(chain), chain)
                grown[start, end] = min(way, grown.get((start, end), way))
    return grown


def no_ring():
    """The ring and the best ways of no bounds."""
    return (None, {})


def ring_and_ways_with(known, moments, bound):
    """The ring and the best ways of the bounds of `known` and one bound behind them."""
    ring, ways = known
    if ring is not None:
        return known
    _, first, second, limit = bound
    back = best_way(ways, second, first)
    if back is not None and back[0] + limit < 0:
        return ((bound, *back[2]), ways)
    return (None, ways_with(ways, moments, bound))


def ring_and_ways(bounds, moments):
    """The ring of the bounds, None if they are consistent, and the best ways of the bounds before its first one."""
    known = no_ring()
    for bound in bounds:
        known = ring_and_ways_with(known, moments, bound)
    return known

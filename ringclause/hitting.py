"""The best hitting tuple of sets of positions."""


def least_hitting(sets, weights):
    """The best tuple of positions that has a position of each set, None if some set is empty."""
    rows = {tuple(sorted(set(positions))): True for positions in sets}
    best = better_hitting(list(rows), costs_of(weights), (), 0, None)
    return None if best is None else tuple(sorted(best[1]))


def costs_of(weights):
    """For each position a cost such that the best of several tuples is the one with the least sum of costs.

    The weights count first, then the number of positions, then the positions: of two tuples of as many positions the
    lesser one has the greater sum of the powers of 2 that are subtracted here.
    """
    many = len(weights)
    return [((weight * (many + 1) + 1) << many) - (1 << (many - 1 - position))
            for position, weight in enumerate(weights)]


def better_hitting(rows, costs, chosen, spent, best):
    """The least of `best` and all pairs (cost, positions) that hit the rows and have the chosen positions.

    None stands for a pair of any cost.
    """
    if best is not None and spent + unavoidable_cost(rows, costs) >= best[0]:
        return best
    if len(rows) == 0:
        return (spent, chosen)
    tried = ()
    for position in min(rows, key=len):
        # What was tried before is not needed again: the rest is hit without it.
        others = [tuple([other for other in row if other not in tried]) for row in rows if position not in row]
        best = better_hitting(others, costs, (*chosen, position), spent + costs[position], best)
        tried = (*tried, position)
    return best


def unavoidable_cost(rows, costs):
    """A cost that no hitting tuple falls below: that of the cheapest positions of rows that share none."""
    total = 0
    used = {}
    for row in rows:
        if not any([position in used for position in row]):
            total += min([costs[position] for position in row], default=0)
            used.update({position: True for position in row})
    return total

"""Sorting: rows sorted in runs of limited length, and runs merged, so that few rows are compared at a time."""

from tablestack.errors import PlanFault


def ordered_pair(one, other, descending):
    """Return True if one row of ranks may stand before another one; a place that descends compares the other way."""
    for place, first in enumerate(one):
        if first != other[place]:
            return (first > other[place]) == descending[place]
    return True


def merged_pair(one, other, descending):
    """Return two sorted runs of (ranks, row) as one; of rows that tie, those of the first run stand first."""
    found = []
    first = 0
    second = 0
    while first < len(one) and second < len(other):
        if ordered_pair(one[first][0], other[second][0], descending):
            found.append(one[first])
            first += 1
        else:
            found.append(other[second])
            second += 1
    return [*found, *one[first:], *other[second:]]


def sorted_run(rows, descending):
    """Return a short run of (ranks, row) sorted by inserting each after those that may stand before it."""
    run = []
    for pair in rows:
        run.insert(place_behind(run, pair, descending), pair)
    return run


def place_behind(run, pair, descending):
    """Return the place in a sorted run behind all pairs that may stand before a pair; they are its first ones."""
    low = 0
    high = len(run)
    while low < high:
        middle = (low + high) // 2
        if ordered_pair(run[middle][0], pair[0], descending):
            low = middle + 1
        else:
            high = middle
    return low


def sort_rows(rows, descending, limit):
    """Return (ranks, row) pairs sorted in runs of at most so many, merged two by two; raise PlanFault below 1."""
    if limit < 1:
        raise PlanFault("a run has at least one row")
    runs = [sorted_run(rows[start:start + limit], descending) for start in range(0, len(rows), limit)]
    while len(runs) > 1:
        # A run without a partner is merged with an empty one.
        ends = [*runs, []]
        runs = [merged_pair(ends[at], ends[at + 1], descending) for at in range(0, len(runs), 2)]
    if runs == []:
        return []
    return runs[0]


def run_count(many, limit):
    """Return how many runs so many rows make; without a limit of 1 at least they are one run."""
    if many < 1:
        return 0
    if limit < 1:
        return 1
    return (many + limit - 1) // limit

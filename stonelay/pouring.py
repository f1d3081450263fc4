"""Counts poured together, and how many ways there are to choose."""


def choices(n, k):
    """How many choices of k among n there are."""
    # Ahead of the loop, since k may be a number of a thousand figures.
    if not 0 <= k <= n:
        return 0
    found = 1
    for step in range(k):
        # Each product holds step + 1 neighbours, which step + 1 divides, so nothing is lost.
        found = found * (n - step) // (step + 1)
    return found


def poured(one, other):
    """The list of the counts of two things together, from the lists of the counts of each."""
    counts = [0] * (len(one) + len(other) - 1)
    for i, many in enumerate(one):
        for j, more in enumerate(other):
            counts[i + j] += many * more
    return counts

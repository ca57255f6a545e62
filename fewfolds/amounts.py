"""How many there are of something: whole numbers, not taken by p."""


def raised(base, k):
    """Return the k-th power of an integer."""
    found = 1
    for _ in range(k):
        found = found * base
    return found


def many_undoable(q, n):
    """Return how many tables of the size n can be undone if there are q numbers."""
    found = 1
    for k in range(n):
        found = found * (raised(q, n) - raised(q, k))
    return found

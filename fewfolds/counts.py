"""How many tables of each kind, and how many tuples of free rows there are, without making them."""

from fewfolds.amounts import many_free, many_undoable, raised
from fewfolds.checks import check_prime, is_integer_within
from fewfolds.errors import BadNumber, BadWord
from fewfolds.goings import many_going

MOST_COUNTED = 30


def check_counted(p, n):
    """Raise BadPrime with a wrong p, and BadNumber with an n that is no integer from 1 to 30."""
    check_prime(p)
    if not is_integer_within(n, 1, MOST_COUNTED):
        raise BadNumber(n)


def check_third(n, thing):
    """Raise BadNumber with a value that is no integer from 0 to n."""
    if not is_integer_within(thing, 0, n):
        raise BadNumber(thing)


def many_tables(p, n):
    """Return how many tables there are."""
    return raised(p, n * n)


def many_with_undoing(p, n):
    """Return how many tables can be undone."""
    return many_undoable(p, n)


def many_folds(p, n):
    """Return how many folds there are: turned ones of those that leave the first k unit rows and lose the others."""
    every = many_undoable(p, n)
    return sum([every // (many_undoable(p, k) * many_undoable(p, n - k)) for k in range(n + 1)])


def many_flips(p, n):
    """Return how many flips there are."""
    # By 2, flips are 1 and what comes to 0 at once; otherwise they are what doubled folds make, less 1.
    return many_at_once(p, n) if p == 2 else many_folds(p, n)


def many_fallers(p, n):
    """Return how many fallers there are."""
    return raised(p, n * n - n)


def many_at_once(p, n):
    """Return how many tables come to 0 at once: those with k steps 2 and all others 1, of the polynomial (0, 1)."""
    every = many_undoable(p, n)
    steps = [(2,) * k + (1,) * (n - 2 * k) for k in range(n // 2 + 1)]
    return sum([every // many_going(p, (((0, 1), told),)) for told in steps])


def many_symmetric(p, n):
    """Return how many symmetric tables there are."""
    return raised(p, n * (n + 1) // 2)


COUNTS = {
    "tables": many_tables, "undoable": many_with_undoing, "folds": many_folds, "flips": many_flips,
    "fallers": many_fallers, "at once": many_at_once, "symmetric": many_symmetric,
}


def count_of(word, p, n):
    """Return how many tables by p of the size n are what the word says."""
    if not isinstance(word, str) or word not in COUNTS:
        raise BadWord(word)
    check_counted(p, n)
    count = COUNTS[word]
    return count(p, n)


def count_rank(p, n, r):
    """Return how many tables by p of the size n have the rank r."""
    check_counted(p, n)
    check_third(n, r)
    # As many as spans of r free rows, and tuples of rows in one of them that span it.
    free = many_free(p, n, r)
    return free * free // many_undoable(p, r)


def count_free(p, n, k):
    """Return how many tuples of k rows of n numbers by p are free."""
    check_counted(p, n)
    check_third(n, k)
    return many_free(p, n, k)

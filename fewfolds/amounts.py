"""How many there are of something: whole numbers, not taken by p."""


def raised(base, k):
    """Return the k-th power of an integer."""
    found = 1
    for _ in range(k):
        found = found * base
    return found


def many_free(q, n, k):
    """Return how many tuples of k rows of n numbers are free if there are q numbers."""
    found = 1
    for at in range(k):
        # A row is free beside those ahead of it if it is no sum of multiples of them.
        found = found * (raised(q, n) - raised(q, at))
    return found


def many_undoable(q, n):
    """Return how many tables of the size n can be undone if there are q numbers."""
    return many_free(q, n, n)


def primes_of(number):
    """Return the ascending list of the primes that divide an integer from 1 on."""
    found = []
    prime = 2
    while prime * prime <= number:
        if number % prime == 0:
            found.append(prime)
            while number % prime == 0:
                number = number // prime
        prime += 1
    return found + [number] if number > 1 else found

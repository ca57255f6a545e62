"""What the tests share: values of all kinds, tables, and the words of the document, said a second time."""

import itertools
import random

from fewfolds.errors import TableError

PRIMES = (2, 3, 5, 7)
HUGE = 10 ** 99


def nested(depth):
    """A value that is nested depth deep, by turns in tuples, lists and dicts."""
    value = 1
    for k in range(depth):
        value = ((value,), [value], {"a": value})[k % 3]
    return value


# Values of all kinds; none of them is a table or a prime.
ODD_VALUES = [
    None, True, False, 0, 1, -1, 4, 6, 8, 9, 11, -2, HUGE, -HUGE, "", "2", "a", "table 2 1\n1", "x" * 2000,
    [], [2], [0, 1], {}, {2: 3}, {"p": 2}, (True, False), (None,), ("1", "0"), ([0], [1]), ((), ()),
    (2,), (2, 3), (2, ()), (2, ((),)), (2, [[1]]), (2, ([1],)), [2, ((1,),)], (2, ((1,),), 1), (2, [(1,)]),
    (True, ((1,),)), (1, ((0,),)), (4, ((1,),)), ("2", ((1,),)), (None, ((1,),)), ([2], ((1,),)), (11, ((1,),)),
    (0, ((0,),)), (-2, ((0,),)), (HUGE, ((0,),)), (2, ((2,),)), (2, ((-1,),)), (2, ((True,),)), (2, ((False,),)),
    (2, ((None,),)), (2, (("1",),)), (2, (((1,),),)), (2, (1,)), (2, 1), (2, "1"), (2, ("1",)), (2, {0: (1,)}),
    (3, ((3,),)), (5, ((0, 1), (5, 0))), (7, ((7,),)), (3, ((HUGE,),)), (3, ((-HUGE,),)),
    (2, ((1, 0), (1,))), (2, ((1,), (1, 0))), (2, ((1, 0),)), (2, ((1, 0), (0, 1), (1, 1))),
    (2, ((1, 0, 0), (0, 1, 0))), (5, ((0, 1), [1, 0])), (5, ((0, 1), (1, True))), (5, ((0, 1), None)),
    (2, tuple((0,) * 9 for _ in range(9))), (2, tuple((0,) * 8 for _ in range(9))), (2, ((0,) * 9,) * 8),
    nested(12), (2, (nested(10),)), (0,) * 3000, [0] * 3000, (0,) * 61, (1,) * 61,
]


def table_values():
    """A few tables of all primes and unlike sizes."""
    return [(p, tuple(tuple((i * i + 2 * k + 1) % p for k in range(n)) for i in range(n)))
            for p in PRIMES for n in (1, 2, 8)]


def random_row(rng, p, n):
    return tuple(rng.randrange(p) for _ in range(n))


def random_table(rng, p, n):
    """A table; some of them have a low rank, so that all ranks come."""
    rows = [random_row(rng, p, n) for _ in range(n)]
    for k in range(n):
        if rng.randrange(4) == 0:
            rows[k] = tuple(2 * x % p for x in rows[rng.randrange(n)])
    return p, tuple(rows)


def random_tables(seed, many=3):
    """Tables by each prime and of each size, the same ones in each run."""
    rng = random.Random(seed)
    for p in PRIMES:
        for n in range(1, 9):
            for _ in range(many):
                yield random_table(rng, p, n)


def random_poly(rng, p, size):
    """A polynomial of just so many numbers."""
    if size == 0:
        return ()
    return random_row(rng, p, size - 1) + (rng.randrange(1, p),)


def any_value(rng, depth=0):
    """Some value of the kinds that "any value" names."""
    kind = rng.randrange(12 if depth < 4 else 8)
    if kind < 4:
        return rng.choice((0, 1, 2, 3, 4, 5, 7, -1, HUGE))
    if kind < 8:
        return rng.choice((None, True, False, "", "1", "table 2 1\n1", 2, 0))
    parts = [any_value(rng, depth + 1) for _ in range(rng.randrange(4))]
    if kind == 8:
        return parts
    if kind == 9:
        return dict(enumerate(parts))
    return tuple(parts)


def spoiled(rng, value):
    """A value of nested tuples with some part replaced, left out, exchanged or repeated."""
    if not isinstance(value, tuple) or value == () or rng.randrange(5) == 0:
        return any_value(rng)
    at = rng.randrange(len(value))
    way = rng.randrange(6)
    if way == 0:
        return value[:at] + value[at + 1:]
    if way == 1:
        return value[:at] + value[at:at + 1] + value[at:]
    if way == 2:
        return list(value)
    if way == 3:
        return value[::-1]
    return value[:at] + (spoiled(rng, value[at]),) + value[at + 1:]


def outcome(call, *args, **more):
    """What a call returns or raises, in words that tell 1 from True and (1,) from [1]."""
    try:
        return repr(call(*args, **more))
    except TableError as error:
        return f"raises {type(error).__name__}{vars(error)!r}"


# The kinds of values, told anew after the document and not after the program.


def says_integer(thing):
    return type(thing) is int


def says_prime(thing):
    return type(thing) is int and thing in (2, 3, 5, 7)


def says_size(thing):
    return type(thing) is int and 1 <= thing <= 8


def says_numbers(p, thing):
    return type(thing) is tuple and all(type(x) is int and 0 <= x < p for x in thing)


def says_table(thing):
    if type(thing) is not tuple or len(thing) != 2 or not says_prime(thing[0]) or type(thing[1]) is not tuple:
        return False
    n = len(thing[1])
    return says_size(n) and all(says_numbers(thing[0], row) and len(row) == n for row in thing[1])


def says_poly(p, thing):
    return says_numbers(p, thing) and len(thing) <= 60 and (len(thing) == 0 or thing[-1] != 0)


def says_fellows(one, other):
    return one[0] == other[0] and len(one[1]) == len(other[1])


# Slow and plain ways to what the program works out.


def plain_product(one, other):
    p, rows = one
    n = len(rows)
    return p, tuple(tuple(sum(rows[i][j] * other[1][j][k] for j in range(n)) % p for k in range(n))
                    for i in range(n))


def plain_one(p, n):
    return p, tuple(tuple(int(i == k) for k in range(n)) for i in range(n))


def plain_zero(p, n):
    return p, tuple(tuple(0 for _ in range(n)) for _ in range(n))


def sign_of(places):
    return (-1) ** sum(1 for i, k in itertools.combinations(places, 2) if i > k)


def plain_determinant(table):
    """The determinant, by all orders of the columns; for sizes up to 6."""
    p, rows = table
    total = 0
    for places in itertools.permutations(range(len(rows))):
        worth = sign_of(places)
        for i, k in enumerate(places):
            worth *= rows[i][k]
        total += worth
    return total % p


def plain_rank(table):
    """The rank, told by how many rows the table leads to zeros; for few rows only."""
    p, rows = table
    n = len(rows)
    lost = sum(1 for row in itertools.product(range(p), repeat=n)
               if all(sum(x * y[k] for x, y in zip(row, rows)) % p == 0 for k in range(n)))
    rank = n
    while lost > 1:
        lost //= p
        rank -= 1
    return rank


def plain_poly_product(p, one, other):
    """The product of two polynomials, number by number."""
    found = [sum(one[i] * other[k - i] for i in range(len(one)) if 0 <= k - i < len(other)) % p
             for k in range(max(0, len(one) + len(other) - 1))]
    while found and found[-1] == 0:
        found.pop()
    return tuple(found)


def plain_at_table(poly, table):
    """A polynomial at a table, by the powers one after another."""
    p, rows = table
    n = len(rows)
    power, found = plain_one(p, n), plain_zero(p, n)
    for number in poly:
        found = p, tuple(tuple((x + number * y) % p for x, y in zip(a, b)) for a, b in zip(found[1], power[1]))
        power = plain_product(power, table)
    return found


def plain_whole_poly(table):
    """The determinant of x minus the table, by all orders of the columns; for sizes up to 5."""
    p, rows = table
    n = len(rows)
    total = [0] * (n + 1)
    for places in itertools.permutations(range(n)):
        worth = (sign_of(places) % p,)
        for i, k in enumerate(places):
            worth = plain_poly_product(p, worth, (-rows[i][k] % p,) + ((1,) if i == k else ()))
        for k, number in enumerate(worth):
            total[k] = (total[k] + number) % p
    return tuple(total)


def monic_polys(p, degree):
    """All monic polynomials of a degree."""
    return [numbers + (1,) for numbers in itertools.product(range(p), repeat=degree)]


def plain_prime_polys(p, most):
    """All prime polynomials up to a degree: those that are no product of two lesser ones."""
    products = {plain_poly_product(p, one, other)
                for low in range(1, most) for high in range(low, most - low + 1)
                for one in monic_polys(p, low) for other in monic_polys(p, high)}
    return [poly for degree in range(1, most + 1) for poly in monic_polys(p, degree) if poly not in products]

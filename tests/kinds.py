"""Tables of all kinds, and the words of the parts 2 to 5 of the document, said a second time by plain ways."""

import functools
import itertools
import random

from support import PRIMES, plain_at_table, plain_one, plain_poly_product, plain_product, plain_zero, random_row
from support import random_table, says_fellows, says_integer, says_numbers, says_poly, says_table

# Plain arithmetic.


def rank_of(p, rows):
    """The greatest number of free rows among rows of one length."""
    rows = [list(row) for row in rows]
    rank = 0
    for column in range(len(rows[0]) if rows else 0):
        hits = [row for row in rows[rank:] if row[column]]
        if not hits:
            continue
        lead = hits[0]
        rows.remove(lead)
        back = pow(lead[column], -1, p)
        rows = [row if k < rank else [(x - row[column] * back * y) % p for x, y in zip(row, lead)]
                for k, row in enumerate(rows)]
        rows.insert(rank, lead)
        rank += 1
    return rank


def are_free_rows(p, rows):
    return rank_of(p, rows) == len(rows)


def undoing_of(table):
    """The undoing, or None."""
    p, rows = table
    n = len(rows)
    if rank_of(p, rows) < n:
        return None
    wide = [list(row) + [int(i == k) for k in range(n)] for i, row in enumerate(rows)]
    for k in range(n):
        at = next(i for i in range(k, n) if wide[i][k])
        wide[k], wide[at] = wide[at], wide[k]
        back = pow(wide[k][k], -1, p)
        wide[k] = [x * back % p for x in wide[k]]
        for i in range(n):
            if i != k:
                wide[i] = [(x - wide[i][k] * y) % p for x, y in zip(wide[i], wide[k])]
    return p, tuple(tuple(row[n:]) for row in wide)


def product_of(p, n, tables):
    return functools.reduce(plain_product, tables, plain_one(p, n))


def turned_by(table, by):
    return plain_product(plain_product(by, table), undoing_of(by))


def lead(row, table):
    p, rows = table
    return tuple(sum(x * told[k] for x, told in zip(row, rows)) % p for k in range(len(rows)))


def less(one, other):
    p, rows = one
    return p, tuple(tuple((x - y) % p for x, y in zip(a, b)) for a, b in zip(rows, other[1]))


def moved_of(table):
    p, rows = table
    return rank_of(p, less(plain_one(p, len(rows)), table)[1])


def lost_of(table):
    return len(table[1]) - rank_of(table[0], table[1])


def go_together(one, other):
    return plain_product(one, other) == plain_product(other, one)


def remainder(p, poly, by):
    """What is left of a polynomial, divided by a monic one."""
    rest = list(poly)
    while len(rest) >= len(by):
        factor = rest[-1]
        for k, number in enumerate(by):
            rest[len(rest) - len(by) + k] -= factor * number
        rest = [x % p for x in rest]
        rest.pop()
    while rest and rest[-1] == 0:
        rest.pop()
    return tuple(rest)


@functools.lru_cache(maxsize=None)
def is_prime_one(p, poly):
    """Whether a monic polynomial is prime: it has no divisor in common with x ** (p ** k) - x for low k."""
    if len(poly) < 2 or poly[-1] != 1:
        return False
    power = (0, 1)
    for _ in range((len(poly) - 1) // 2):
        power = remainder(p, power, poly)
        told = (1,)
        for _ in range(p):
            told = remainder(p, plain_poly_product(p, told, power), poly)
        power = told
        told = list(power) + [0] * (2 - len(power))
        told[1] = (told[1] - 1) % p
        one, other = poly, remainder(p, told, poly)
        while other:
            back = pow(other[-1], -1, p)
            other = tuple(x * back % p for x in other)
            one, other = other, remainder(p, one, other)
        if len(one) > 1:
            return False
    return True


def power_ranks(poly, table, most):
    """The ranks of the powers of a polynomial at a table, from 0 to most."""
    p, rows = table
    once = plain_at_table(poly, table)
    ranks, power = [], plain_one(p, len(rows))
    for _ in range(most + 1):
        ranks.append(rank_of(p, power[1]))
        power = plain_product(power, once)
    return ranks


# Tables.


def all_tables(p, n):
    """All tables of a size by p."""
    rows = list(itertools.product(range(p), repeat=n))
    return [(p, told) for told in itertools.product(rows, repeat=n)]


SMALL_SIZES = ((2, 1), (3, 1), (2, 2), (3, 2), (2, 3))


def diagonal_table(p, numbers):
    return p, tuple(tuple(number % p if i == k else 0 for k in range(len(numbers)))
                    for i, number in enumerate(numbers))


def block_table(p, blocks):
    """The table with these tables along its diagonal."""
    n = sum(len(rows) for _, rows in blocks)
    made = []
    for _, rows in blocks:
        before = len(made)
        made += [(0,) * before + row + (0,) * (n - before - len(row)) for row in rows]
    return p, tuple(made)


def companion_of(p, poly):
    m = len(poly) - 1
    return p, tuple(tuple(int(k == i + 1) if i < m - 1 else -poly[k] % p for k in range(m)) for i in range(m))


def poly_to(p, poly, k):
    return functools.reduce(lambda one, other: plain_poly_product(p, one, other), (poly,) * k, (1,))


def free_table(rng, p, n):
    """A table that can be undone: a lower and an upper one, with no 0 on the diagonal, with rows exchanged."""
    low = tuple(tuple(rng.randrange(p) if k < i else int(i == k) for k in range(n)) for i in range(n))
    high = tuple(tuple(rng.randrange(p) if k > i else rng.randrange(1, p) if i == k else 0 for k in range(n))
                 for i in range(n))
    rows = list(plain_product((p, low), (p, high))[1])
    rng.shuffle(rows)
    return p, tuple(rows)


def low_table(rng, p, n, most):
    """A table of a rank of at most so many: a product through fewer rows."""
    left = [random_row(rng, p, most) for _ in range(n)]
    right = [random_row(rng, p, n) for _ in range(most)]
    return p, tuple(tuple(sum(x * y[k] for x, y in zip(row, right)) % p for k in range(n)) for row in left)


def triangle(rng, p, n, diagonal):
    return p, tuple(tuple(rng.randrange(p) if k > i else diagonal[i] if k == i else 0 for k in range(n))
                    for i in range(n))


def random_fold(rng, p, n):
    stay = rng.randrange(n + 1)
    return turned_by(diagonal_table(p, (1,) * stay + (0,) * (n - stay)), free_table(rng, p, n))


def random_flip(rng, p, n):
    """A flip; by 2 it is made of exchanges, as 1 and -1 are the same."""
    if p > 2:
        return turned_by(diagonal_table(p, tuple(rng.choice((1, -1)) for _ in range(n))), free_table(rng, p, n))
    pairs = rng.randrange(n // 2 + 1)
    blocks = [(2, ((0, 1), (1, 0)))] * pairs + [(2, ((1,),))] * (n - 2 * pairs)
    return turned_by(block_table(2, blocks), free_table(rng, p, n))


def some_polys(rng, p):
    """Monic polynomials out of which blocks are made: some with themselves as their mirror, some without."""
    return [(0, 1), (p - 1, 1), (1, 1), (1, 0, 1), (1, 1, 1), (1, 1, 0, 1), (1, 0, 1, 1), (rng.randrange(p), 1),
            random_row(rng, p, 2) + (1,), random_row(rng, p, 3) + (1,)]


def random_blocks(rng, p, n):
    """Powers of polynomials, some of them more than once, whose degrees add up to n."""
    told, rest = [], n
    few = rng.sample(some_polys(rng, p), 3)
    while rest:
        poly = poly_to(p, rng.choice(few + [(rng.randrange(p), 1)]), rng.choice((1, 1, 2, 3)))
        if len(poly) - 1 <= rest:
            told.append(poly)
            rest -= len(poly) - 1
    return told


def turned_blocks(rng, p, n):
    """Companions along the diagonal, turned."""
    blocks = [companion_of(p, poly) for poly in random_blocks(rng, p, n)]
    return turned_by(block_table(p, blocks), free_table(rng, p, n))


def kinds(rng, p, n):
    """One table of each kind."""
    few = rng.choice((0, 1, p - 1))
    return [
        random_table(rng, p, n), free_table(rng, p, n), low_table(rng, p, n, rng.randrange(n + 1)),
        diagonal_table(p, (rng.randrange(p),) * n), diagonal_table(p, random_row(rng, p, n)),
        triangle(rng, p, n, random_row(rng, p, n)), triangle(rng, p, n, (few,) * n), turned_blocks(rng, p, n),
        turned_blocks(rng, p, n), product_of(p, n, [random_fold(rng, p, n) for _ in range(rng.randrange(1, 4))]),
        product_of(p, n, [random_flip(rng, p, n) for _ in range(2)]),
        product_of(p, n, [random_flip(rng, p, n) for _ in range(4)]), plain_zero(p, n), plain_one(p, n),
    ]


def tables_of_all_kinds(seed, many=1):
    """Tables of each kind by each prime and of each size, the same ones in each run."""
    rng = random.Random(seed)
    return [table for p in PRIMES for n in range(1, 9) for _ in range(many) for table in kinds(rng, p, n)]


def classes(p, n):
    """Of all fellows that are alike one table each, as the dicts from prime polynomials to their steps."""
    primes = [poly for degree in range(1, n + 1)
              for poly in (told + (1,) for told in itertools.product(range(p), repeat=degree))
              if is_prime_one(p, poly)]

    def partitions(total, most):
        if total == 0:
            yield ()
        for first in range(min(total, most), 0, -1):
            for rest in partitions(total - first, first):
                yield (first,) + rest

    def chosen(at, rest):
        if rest == 0:
            yield {}
        elif at < len(primes) and len(primes[at]) - 1 <= rest:
            degree = len(primes[at]) - 1
            for total in range(rest // degree + 1):
                for more in chosen(at + 1, rest - total * degree):
                    for steps in partitions(total, total):
                        yield {**({primes[at]: steps} if steps else {}), **more}

    return list(chosen(0, n))


def table_of_class(p, told):
    return block_table(p, [companion_of(p, poly_to(p, poly, step)) for poly in sorted(told) for step in told[poly]])


# The certificates, after the words of the document.


def says_certificate(thing, word, size):
    return type(thing) is tuple and len(thing) == size and type(thing[0]) is str and thing[0] == word


def says_fellow(table, thing):
    return says_table(thing) and says_fellows(table, thing)


def says_unlike(one, other, poly, k):
    if not says_poly(one[0], poly) or not is_prime_one(one[0], poly) or not says_integer(k) or not 1 <= k <= 8:
        return False
    return power_ranks(poly, one, k)[k] != power_ranks(poly, other, k)[k]


def says_alike(one, other, thing):
    if says_certificate(thing, "alike", 2):
        return says_fellow(one, thing[1]) and undoing_of(thing[1]) is not None and turned_by(one, thing[1]) == other
    return says_certificate(thing, "ranks", 3) and says_unlike(one, other, thing[1], thing[2])


def says_through(table, other, thing):
    """The certificates of [3.2]."""
    if says_certificate(thing, "poly", 2):
        return says_poly(table[0], thing[1]) and plain_at_table(thing[1], table) == other
    if not says_certificate(thing, "apart", 2) or not says_fellow(table, thing[1]):
        return False
    return go_together(table, thing[1]) and not go_together(other, thing[1])


def says_positions(n, thing):
    return type(thing) is tuple and all(says_integer(at) and 0 <= at < n for at in thing) and (
        list(thing) == sorted(set(thing)))


def says_folds(table, k, thing):
    p, rows = table
    n = len(rows)
    if says_certificate(thing, "folds", 2):
        return type(thing[1]) is tuple and len(thing[1]) == k and all(
            says_fellow(table, fold) and plain_product(fold, fold) == fold for fold in thing[1]) and (
                product_of(p, n, thing[1]) == table)
    if not says_certificate(thing, "bar", 3) or not says_positions(n, thing[1]) or not says_positions(n, thing[2]):
        return False
    moved = less(plain_one(p, n), table)[1]
    return are_free_rows(p, [rows[at] for at in thing[1]]) and are_free_rows(p, [moved[at] for at in thing[2]]) and (
        k * (n - len(thing[1])) < len(thing[2]))


def says_flips(table, things):
    p, rows = table
    unit = plain_one(p, len(rows))
    return all(says_fellow(table, flip) and plain_product(flip, flip) == unit for flip in things) and (
        product_of(p, len(rows), things) == table)


def says_two(table, thing):
    p, rows = table
    if says_certificate(thing, "flips", 3):
        return says_flips(table, thing[1:])
    if says_certificate(thing, "lost", 2):
        return says_numbers(p, thing[1]) and len(thing[1]) == len(rows) and any(thing[1]) and (
            not any(lead(thing[1], table)))
    back = undoing_of(table)
    return says_certificate(thing, "apart", 3) and back is not None and says_unlike(table, back, thing[1], thing[2])


def plain_determinant_of(table):
    """The determinant, by exchanges and multiples of rows."""
    p, rows = table
    rows, worth = [list(row) for row in rows], 1
    for k in range(len(rows)):
        hits = [i for i in range(k, len(rows)) if rows[i][k]]
        if not hits:
            return 0
        if hits[0] != k:
            rows[k], rows[hits[0]] = rows[hits[0]], rows[k]
            worth = -worth
        worth = worth * rows[k][k] % p
        back = pow(rows[k][k], -1, p)
        for i in range(k + 1, len(rows)):
            rows[i] = [(x - rows[i][k] * back * y) % p for x, y in zip(rows[i], rows[k])]
    return worth % p


def says_four(table, thing):
    if says_certificate(thing, "flips", 5):
        return says_flips(table, thing[1:])
    number = plain_determinant_of(table)
    return says_certificate(thing, "determinant", 2) and says_integer(thing[1]) and thing[1] == number and (
        number not in (1, table[0] - 1))


# Certificates that are wrong at one place.


def wrong_at_one_place(value):
    """Values that differ from this one at just one place: of nested tuples, integers and strings."""
    if type(value) is tuple:
        yield list(value)
        yield value + (0,)
        yield value + value[-1:]
        for at, part in enumerate(value):
            yield value[:at] + value[at + 1:]
            for told in wrong_at_one_place(part):
                yield value[:at] + (told,) + value[at + 1:]
    elif type(value) is int:
        yield from (value + 1, value - 1, None, str(value), (value,))
        if value in (0, 1):
            yield bool(value)
    else:
        yield from (value + "s", value.upper(), "", None, 0)

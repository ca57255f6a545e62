"""The words of the parts 9 to 12 of the document, said a second time by plain ways."""

from kinds import diagonal_table, free_table, is_prime_one, less, moved_of, plain_determinant_of, power_ranks
from kinds import product_of, rank_of, says_certificate, says_fellow, turned_by, undoing_of
from support import plain_one, plain_product, plain_zero, says_integer, says_poly
from words import falls_at_once, many_times, plus

# Shears.


def beside_one(table):
    """A table less 1."""
    return less(table, plain_one(table[0], len(table[1])))


def says_shear(table):
    return moved_of(table) == 1 and falls_at_once(beside_one(table))


def says_fold_beside_one(table):
    p, rows = table
    told = beside_one(table)
    folds = [many_times(told, pow(number, -1, p)) for number in range(1, p)]
    return told != plain_zero(p, len(rows)) and any(plain_product(fold, fold) == fold for fold in folds)


def says_fewest(table):
    """The fewest shears, after [9.2]; None if there are none."""
    if plain_determinant_of(table) != 1:
        return None
    return moved_of(table) + says_fold_beside_one(table)


def says_shears(table, thing):
    p, rows = table
    if says_certificate(thing, "shears", 2):
        return type(thing[1]) is tuple and len(thing[1]) == says_fewest(table) and all(
            says_fellow(table, shear) and says_shear(shear) for shear in thing[1]) and (
                product_of(p, len(rows), thing[1]) == table)
    return says_certificate(thing, "determinant", 2) and says_integer(thing[1]) and (
        thing[1] == plain_determinant_of(table) != 1)


def random_shear(rng, p, n):
    """A shear, of a size from 2 on."""
    rows = [list(row) for row in plain_one(p, n)[1]]
    rows[0][1] = rng.randrange(1, p)
    return turned_by((p, tuple(tuple(row) for row in rows)), free_table(rng, p, n))


def fold_beside_one(rng, p, n, keeps):
    """1 and a multiple other than 0 of a fold that leaves so many free rows."""
    fold = turned_by(diagonal_table(p, (1,) * keeps + (0,) * (n - keeps)), free_table(rng, p, n))
    return plus(plain_one(p, n), many_times(fold, rng.randrange(1, p)))


# Squares.


def spread_poly(poly):
    """f(x x) of f."""
    return tuple(poly[k // 2] if k % 2 == 0 else 0 for k in range(2 * len(poly) - 1))


def steps_at(table, poly):
    """The steps of a prime polynomial at a table, out of the ranks; () if it is none of the table's."""
    n, degree = len(table[1]), len(poly) - 1
    ranks = power_ranks(poly, table, n + 1)
    above = [(ranks[k] - ranks[k + 1]) // degree for k in range(n + 1)]
    return tuple(sum(many > at for many in above) for at in range(above[0]))


def are_partners_as_asked(p, poly, first, second):
    if p == 2 or poly == (0, 1):
        return abs(first - second) <= 1
    return first == second or not is_prime_one(p, spread_poly(poly))


def partner_at(steps, i):
    """The partners at 2 i and 2 i + 1, or None."""
    steps = tuple(steps) + ((0,) if len(steps) % 2 else ())
    return steps[2 * i:2 * i + 2] if 0 <= i and 2 * i < len(steps) else None


def fits_square(p, told):
    """Whether a dict from prime polynomials to their steps is one of a square."""
    return all(are_partners_as_asked(p, poly, *partner_at(steps, i))
               for poly, steps in told.items() for i in range((len(steps) + 1) // 2))


def says_square(table, thing):
    p, _ = table
    if says_certificate(thing, "root", 2):
        return says_fellow(table, thing[1]) and plain_product(thing[1], thing[1]) == table
    if not says_certificate(thing, "bar", 3) or not says_poly(p, thing[1]) or not is_prime_one(p, thing[1]):
        return False
    # Beyond degree 8 no prime polynomial is one of a table.
    steps = steps_at(table, thing[1]) if len(thing[1]) < 10 else ()
    told = partner_at(steps, thing[2]) if says_integer(thing[2]) else None
    return told is not None and not are_partners_as_asked(p, thing[1], *told)


def power_of(table, k):
    """The k-th power, by squaring."""
    found, square = plain_one(table[0], len(table[1])), table
    while k:
        if k % 2:
            found = plain_product(found, square)
        square = plain_product(square, square)
        k //= 2
    return found


def order_at(p, poly):
    """The least e from 1 on such that a prime polynomial other than (0, 1) divides x ** e - 1; for low degrees."""
    degree = len(poly) - 1
    row, at = [1] + [0] * (degree - 1), 0
    while True:
        last = row[-1]
        row = [(x - last * y) % p for x, y in zip([0] + row[:-1], poly)]
        at += 1
        if row == [1] + [0] * (degree - 1):
            return at


def fits_odd_order(p, told):
    """Whether a dict from prime polynomials to their steps is one of a table with an odd order."""
    for poly, steps in told.items():
        if steps[0] > 1 and (p == 2 or poly == (0, 1)):
            return False
        if poly != (0, 1) and p > 2 and order_at(p, poly) % 2 == 0:
            return False
    return True


# Symmetric factors.


def mirror_of(table):
    p, rows = table
    return p, tuple(tuple(row[k] for row in rows) for k in range(len(rows)))


def says_symmetric(table, thing):
    if not says_certificate(thing, "symmetric", 3):
        return False
    _, first, second = thing
    return says_fellow(table, first) and says_fellow(table, second) and mirror_of(first) == first and (
        mirror_of(second) == second) and undoing_of(first) is not None and plain_product(first, second) == table


def random_symmetric(rng, p, n):
    rows = [[rng.randrange(p) for _ in range(n)] for _ in range(n)]
    return p, tuple(tuple(rows[max(i, k)][min(i, k)] for k in range(n)) for i in range(n))


def free_symmetric(rng, p, n):
    """A symmetric table that can be undone."""
    while True:
        table = random_symmetric(rng, p, n)
        if rank_of(p, table[1]) == n:
            return table

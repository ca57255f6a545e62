"""Polynomials by a prime: products, prime divisors, and those of a table."""

from fewfolds.checks import check_prime, is_poly_by
from fewfolds.divisors import prime_powers, trimmed
from fewfolds.errors import BadPoly
from fewfolds.rows import columns_of, row_led, rows_added, rows_product, swept, unit_rows
from fewfolds.tables import check_table, zero


def check_poly(p, thing):
    """Raise BadPoly with a value that is no polynomial by p, which is known to be a prime."""
    if not is_poly_by(p, thing):
        raise BadPoly(thing)


def is_poly(p, thing):
    """Whether a value is a polynomial by p."""
    check_prime(p)
    return is_poly_by(p, thing)


def is_prime_poly(p, thing):
    """Whether a value is a prime polynomial by p."""
    check_prime(p)
    # The one prime divisor of a prime polynomial is itself; what is not monic, or a number, is none of its own.
    return is_poly_by(p, thing) and thing != () and prime_powers(p, thing) == ((thing, 1),)


def poly_product(p, one, other):
    """Return the product of two polynomials."""
    check_prime(p)
    check_poly(p, one)
    check_poly(p, other)
    found = [0] * (len(one) + len(other))
    for i, x in enumerate(one):
        for k, y in enumerate(other):
            found[i + k] = (found[i + k] + x * y) % p
    return trimmed(found)


def poly_factors(p, poly):
    """Return the ascending tuple of pairs (prime polynomial, how often it divides)."""
    check_prime(p)
    check_poly(p, poly)
    if poly == ():
        raise BadPoly(poly)
    return prime_powers(p, poly)


def at_table(poly, table):
    """Return the polynomial at a table."""
    check_table(table)
    p, rows = table
    check_poly(p, poly)
    units = unit_rows(len(rows))
    _, found = zero(p, len(rows))
    for number in reversed(poly):
        found = rows_added(p, rows_product(p, found, rows), units, number)
    return p, found


def bordered(p, rows, k, whole):
    """Return the whole polynomial of the first k + 1 rows and columns, out of that of the first k ones.

    Both have their greatest power first. This takes no division, so that it holds by every p.
    """
    corner = [row[:k] for row in rows[:k]]
    side = [row[k] for row in rows[:k]]
    reach = rows[k][:k]
    border = [1, -rows[k][k]]
    for _ in range(k):
        border.append(-sum([x * y for x, y in zip(reach, side)]))
        reach = row_led(p, reach, corner)
    return [sum([border[i - j] * whole[j] for j in range(min(i, k) + 1)]) % p for i in range(k + 2)]


def whole_poly(table):
    """Return the determinant of x minus a table."""
    check_table(table)
    p, rows = table
    whole = [1]
    for k in range(len(rows)):
        whole = bordered(p, rows, k, whole)
    return tuple(whole[::-1])


def least_poly(table):
    """Return the monic polynomial of least degree that is 0 at a table."""
    check_table(table)
    p, rows = table
    n = len(rows)
    powers = []
    last = unit_rows(n)
    for _ in range(n + 1):
        powers.append([number for row in last for number in row])
        last = rows_product(p, last, rows)
    # Swept, the first column without a leader tells how the power there is made of those ahead of it.
    done, leaders, _ = swept(p, columns_of(powers), n + 1)
    degree = len(leaders)
    return tuple([-done[k][degree] % p for k in range(degree)]) + (1,)

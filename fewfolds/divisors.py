"""Division of polynomials by p, and their prime divisors, for polynomials that are known to be right."""

from fewfolds.rows import inverse_of, row_times, swept_beside_units


def trimmed(numbers):
    """Return the polynomial with these numbers, without the zeros at the end."""
    size = len(numbers)
    while size > 0 and numbers[size - 1] == 0:
        size -= 1
    return tuple(numbers[:size])


def made_monic(p, poly):
    """Return the monic multiple of a polynomial other than 0."""
    return row_times(p, poly, inverse_of(p, poly[-1]))


def divided(p, poly, by):
    """Return the quotient and the rest of a polynomial by one other than 0."""
    rest = list(poly)
    degree = len(by) - 1
    inverse = inverse_of(p, by[-1])
    size = max(0, len(poly) - degree)
    quotient = [0] * size
    for at in reversed(range(size)):
        factor = rest[at + degree] * inverse % p
        quotient[at] = factor
        for k, number in enumerate(by):
            rest[at + k] = (rest[at + k] - factor * number) % p
    return trimmed(quotient), trimmed(rest)


def common_divisor(p, poly, other):
    """Return the greatest common divisor, monic, of two polynomials that are not both 0."""
    while other != ():
        _, rest = divided(p, poly, other)
        poly, other = other, rest
    return made_monic(p, poly)


def slope_of(p, poly):
    """Return the derivative of a polynomial."""
    return trimmed([k * number % p for k, number in enumerate(poly)][1:])


def kept_polys(p, poly):
    """Return free polynomials, as many as can be, whose p-th powers have themselves as the rest by poly.

    By each prime divisor of poly such a one leaves a number as its rest, and poly has as many different
    prime divisors as there are such ones.
    """
    degree = len(poly) - 1
    rows = []
    rest = (1,)
    for k in range(degree):
        row = list(rest) + [0] * (degree - len(rest))
        row[k] = (row[k] - 1) % p
        rows.append(row)
        _, rest = divided(p, (0,) * p + rest, poly)
    sides, found = swept_beside_units(p, rows)
    return [trimmed(side) for side in sides[found:]]


def split_by(p, poly, kept):
    """Return the parts of poly, monic, by whose prime divisors kept leaves one and the same number."""
    parts = []
    for number in range(p):
        less = trimmed([(kept[0] - number) % p] + list(kept[1:]))
        part = common_divisor(p, poly, less)
        if len(part) > 1:
            parts.append(part)
    return parts


def single_primes(p, poly):
    """Return the prime divisors of a polynomial of degree 1 or more that has none of them twice."""
    parts = [poly]
    for kept in kept_polys(p, poly):
        parts = [piece for part in parts for piece in split_by(p, part, kept)]
    return parts


def divided_out(p, poly, prime):
    """Return a polynomial divided by a prime one as often as can be, and how often this is."""
    many = 0
    quotient, rest = divided(p, poly, prime)
    while rest == ():
        poly = quotient
        many += 1
        quotient, rest = divided(p, poly, prime)
    return poly, many


def prime_powers(p, poly):
    """Return the ascending tuple of pairs (prime polynomial, how often it divides a polynomial other than 0)."""
    often = 1
    found = []
    while len(poly) > 1:
        slope = slope_of(p, poly)
        if slope == ():
            # Only powers with multiples of p are left: poly is the p-th power of what takes each p-th number.
            poly = poly[::p]
            often = often * p
            continue
        single, _ = divided(p, poly, common_divisor(p, poly, slope))
        for prime in single_primes(p, single):
            poly, many = divided_out(p, poly, prime)
            found.append((prime, many * often))
    return tuple(sorted(found))

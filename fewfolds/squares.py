"""Squares and their roots, and tables that are endlessly squares."""

from fewfolds.amounts import primes_of, raised
from fewfolds.blocks import base_of_blocks, block_size, blocks_of
from fewfolds.checks import is_certificate, is_integer, is_poly_by
from fewfolds.divisors import prime_powers, trimmed
from fewfolds.parts import companion, parts_of, poly_power
from fewfolds.polys import at_table, is_prime_poly
from fewfolds.rows import row_added, row_led, row_times
from fewfolds.spaces import orbit, rows_leading
from fewfolds.tables import check_table, is_fellow, power, product, taken, times, undone


def spread(poly):
    """Return f(x x) of a polynomial f."""
    return tuple([poly[k // 2] if k % 2 == 0 else 0 for k in range(2 * len(poly) - 1)])


def has_own_roots(p, poly):
    """Whether nothing is asked of the partners of a prime polynomial: each block has a root of its own."""
    return p != 2 and poly != (0, 1) and not is_prime_poly(p, spread(poly))


def partners_of(steps):
    """Return the pairs of partners of steps."""
    padded = steps + (0,) * (len(steps) % 2)
    return list(zip(padded[::2], padded[1::2]))


def bars_of(p, poly, steps):
    """Return the i for which the partners at 2 i and 2 i + 1 are not as is asked of a square."""
    if has_own_roots(p, poly):
        return []
    most = 1 if p == 2 or poly == (0, 1) else 0
    return [i for i, (step, other) in enumerate(partners_of(steps)) if step - other > most]


def all_bars(table):
    """Return the pairs (prime polynomial, i) of all partners of a table that are not as is asked."""
    return [(poly, i) for poly, steps in parts_of(table) for i in bars_of(table[0], poly, steps)]


def is_square(table):
    """Whether a table has a root."""
    check_table(table)
    return all_bars(table) == []


def own_root(table, poly, step):
    """Return a polynomial at a table that is a root of it on all that this power of poly leads to zeros.

    Here poly(x x) has a prime divisor of the same degree. This power of it is E(x x) + x O(x x): where this
    is 0, x is -E / O at its square. What that is as a polynomial is worked out at a companion.
    """
    p, _ = table
    side = poly_power(p, prime_powers(p, spread(poly))[0][0], step)
    block = companion(p, poly_power(p, poly, step))
    even, odd = at_table(trimmed(side[::2]), block), at_table(trimmed(side[1::2]), block)
    _, made = product(even, undone(odd))
    # The first row of a polynomial at a companion has the numbers of the polynomial.
    return at_table(trimmed(row_times(p, made[0], -1)), table)


def simple_root(table, degree):
    """Return, by 2, a polynomial at a table whose square is the table but for a faller that goes with both.

    This holds on all that the powers of a prime polynomial of this degree lead to zeros. A value of it, squared
    as often as the degree is, or four times as often, comes back: one time less, and it is a root of the value.
    A faller, squared three times or more, is 0, as no step is greater than 8.
    """
    found = table
    for _ in range(4 * degree - 1):
        found = product(found, found)
    return found


def partner_images(table, simple, starts):
    """Return rows to which a root leads starts, if the table is the square of simple and a faller, or simple is 0.

    Each start at an even position is led on to its partner, the next one, and this one back by what simple
    leaves of the table; so twice this is all that is left, and by 2 nothing else comes of the two.
    """
    p, rows = table
    _, rest = taken(table, product(simple, simple))
    padded = list(starts) + [(0,) * len(rows)]
    images = []
    for k in range(0, len(starts), 2):
        first, second = padded[k], padded[k + 1]
        images.append(row_added(p, row_led(p, first, simple[1]), second, 1))
        images.append(row_added(p, row_led(p, second, simple[1]), row_led(p, first, rest), 1))
    return images[:len(starts)]


def start_images(table, poly, starts, step):
    """Return rows to which a root leads the starts of the blocks of a prime polynomial, the first of this step."""
    p, _ = table
    if has_own_roots(p, poly):
        _, root = own_root(table, poly, step)
        return [row_led(p, start, root) for start in starts]
    simple = simple_root(table, len(poly) - 1) if p == 2 else times(table, 0)
    return partner_images(table, simple, starts)


def root_of(table):
    """Return a root of a table that is a square."""
    p, rows = table
    blocks = blocks_of(table)
    images = []
    for poly, steps in parts_of(table):
        own = [block for block in blocks if block[0] == poly]
        told = start_images(table, poly, [block[2] for block in own], steps[0])
        for block, image in zip(own, told):
            # The root goes with the table: where a start is led, there all behind it is told.
            images.extend(orbit(p, image, rows, block_size(block)))
    return p, rows_leading(p, base_of_blocks(p, rows, blocks), images)


def judge_square(table):
    """Return a certificate that a table is a square, or that it is none."""
    check_table(table)
    bars = all_bars(table)
    if bars == []:
        return "root", root_of(table)
    poly, i = bars[0]
    return "bar", poly, i


def square_holds(table, thing):
    """Whether any value is a certificate that a table is a square, or that it is none."""
    check_table(table)
    if is_certificate(thing, "root", 2):
        return is_fellow(table, thing[1]) and product(thing[1], thing[1]) == table
    if not is_certificate(thing, "bar", 3) or not is_poly_by(table[0], thing[1]) or not is_integer(thing[2]):
        return False
    return thing[1:] in all_bars(table)


def odd_order(table):
    """Return the least odd m from 1 on such that the power m + 1 of a table is the table, None if there is none."""
    check_table(table)
    p, _ = table
    # A multiple of the least m, odd or not, if there is one: no step is greater than p to the power 3.
    found = raised(p, 3)
    for poly, _ in parts_of(table):
        found = found * (raised(p, len(poly) - 1) - 1)
    if power(table, found + 1) != table:
        return None
    for prime in primes_of(found):
        while found % prime == 0 and power(table, found // prime + 1) == table:
            found = found // prime
    return found if found % 2 == 1 else None

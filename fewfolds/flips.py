"""Flips, and tables as products of two and of four flips."""

from fewfolds.blocks import are_ranks_unlike, base_of_blocks, block_size, blocks_of, unlike_power
from fewfolds.checks import is_certificate, is_number_by, is_row
from fewfolds.divisors import made_monic
from fewfolds.parts import parts_of
from fewfolds.rows import diagonal_rows, inverse_of, unit_rows
from fewfolds.spaces import orbit, rows_leading, rows_lost
from fewfolds.splits import is_number_times_one, told_factors
from fewfolds.tables import check_table, determinant, is_fellow, led, product, undone


def is_flip(table):
    """Whether a table does nothing twice."""
    check_table(table)
    p, rows = table
    return product(table, table) == (p, unit_rows(len(rows)))


def flip_through(table, other, partner_of):
    """Return a flip that turns a table into another one, to which it is alike: its undoing, or its opposite.

    It leads each block of a prime polynomial to the one at the same place of the partner that partner_of tells
    (its roots are the inverses, or the opposites, of the roots), from start to start, and what the table leads
    on to what the other one leads on.
    """
    p, rows = table
    blocks = blocks_of(table)
    starts = {}
    for poly, _, start in blocks:
        starts.setdefault(poly, []).append(start)
    met = {poly: 0 for poly in starts}
    images = []
    for block in blocks:
        poly = block[0]
        start = starts[partner_of(p, poly)][met[poly]]
        met[poly] += 1
        images.extend(orbit(p, start, other[1], block_size(block)))
    return p, rows_leading(p, base_of_blocks(p, rows, blocks), images)


def inverse_poly(p, poly):
    """Return the prime polynomial whose roots are the inverses of the roots of one other than (0, 1)."""
    return made_monic(p, poly[::-1])


def turning_flip(table):
    """Return a flip that turns a table into its undoing, None if there is none."""
    check_table(table)
    back = undone(table)
    if back is None or parts_of(table) != parts_of(back):
        return None
    return flip_through(table, back, inverse_poly)


def two_flips(table):
    """Return two flips whose product is a table that is alike to its undoing."""
    first = turning_flip(table)
    return first, product(first, table)


def judge_two(table):
    """Return a certificate that a table is a product of two flips, or that it is none."""
    check_table(table)
    back = undone(table)
    if back is None:
        return "lost", rows_lost(table[0], table[1])[0]
    unlike = unlike_power(parts_of(table), parts_of(back))
    if unlike is None:
        return ("flips",) + two_flips(table)
    poly, k = unlike
    return "apart", poly, k


def are_flips_of(table, things):
    """Whether any values, one or more, are flips whose product is a table."""
    if not all([is_fellow(table, thing) and is_flip(thing) for thing in things]):
        return False
    found = things[0]
    for thing in things[1:]:
        found = product(found, thing)
    return found == table


def is_lost(table, thing):
    """Whether any value is a row other than zeros that a table leads to zeros."""
    p, rows = table
    return is_row(p, len(rows), thing) and any(thing) and not any(led(table, thing))


def two_hold(table, thing):
    """Whether any value is a certificate that a table is a product of two flips, or that it is none."""
    check_table(table)
    if is_certificate(thing, "flips", 3):
        return are_flips_of(table, thing[1:])
    if is_certificate(thing, "lost", 2):
        return is_lost(table, thing[1])
    back = undone(table)
    if not is_certificate(thing, "apart", 3) or back is None:
        return False
    return are_ranks_unlike(table, back, thing[1], thing[2])


def number_split(p, n, number):
    """Return two tables, each alike to its undoing, with number times 1 as their product.

    The n-th power of the number is 1 or -1. Therefore its even powers, and likewise its odd ones, come round
    within n of them, and with each one there is its inverse.
    """
    square = number * number % p
    evens = [1]
    for _ in range(n - 1):
        evens.append(evens[-1] * square % p)
    odds = [number * inverse_of(p, even) % p for even in evens]
    return (p, diagonal_rows(p, evens)), (p, diagonal_rows(p, odds))


def turnable_factors(table, number):
    """Return two tables, each alike to its undoing, with a table as their product.

    Its determinant, the number, is 1 or -1.
    """
    p, rows = table
    n = len(rows)
    if is_number_times_one(table):
        return number_split(p, n, rows[0][0])
    # A table with no values but 1 and -1 is alike to its undoing.
    return told_factors(table, (1,) * n, (1,) * (n - 1) + (number,))


def judge_four(table):
    """Return a certificate that a table is a product of four flips, or that it is none."""
    check_table(table)
    p, _ = table
    number = determinant(table)
    if number != 1 and number != p - 1:
        return "determinant", number
    first, second = turnable_factors(table, number)
    return ("flips",) + two_flips(first) + two_flips(second)


def four_hold(table, thing):
    """Whether any value is a certificate that a table is a product of four flips, or that it is none."""
    check_table(table)
    if is_certificate(thing, "flips", 5):
        return are_flips_of(table, thing[1:])
    if not is_certificate(thing, "determinant", 2) or not is_number_by(table[0], thing[1]):
        return False
    return thing[1] == determinant(table) and thing[1] != 1 and thing[1] != table[0] - 1

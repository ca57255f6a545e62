"""The parts of a table, its plain form, and whether two tables are alike."""

from fewfolds.blocks import are_ranks_unlike, base_of_blocks, blocks_of, steps_of, unlike_power
from fewfolds.checks import MOST_ROWS, check_prime, is_certificate, is_integer_within, is_poly_by
from fewfolds.errors import BadPoly
from fewfolds.polys import poly_factors, poly_product, whole_poly
from fewfolds.rows import row_times, rows_along, unit_rows
from fewfolds.tables import check_fellows, check_table, is_fellow, product, undone


def parts_of(table):
    """Return the ascending tuple of pairs (prime polynomial, steps) of a table."""
    check_table(table)
    factors = poly_factors(table[0], whole_poly(table))
    return tuple([(poly, steps_of(poly, table, often)) for poly, often in factors])


def companion(p, poly):
    """Return the companion of a monic polynomial of a degree from 1 to 8."""
    check_prime(p)
    if not is_poly_by(p, poly) or not is_integer_within(len(poly) - 1, 1, MOST_ROWS) or poly[-1] != 1:
        raise BadPoly(poly)
    return p, unit_rows(len(poly) - 1)[1:] + (row_times(p, poly[:-1], -1),)


def poly_power(p, poly, k):
    """Return the k-th power of a polynomial."""
    found = (1,)
    for _ in range(k):
        found = poly_product(p, found, poly)
    return found


def step_polys(table):
    """Return the polynomials, powers of prime ones, whose companions stand in the plain form, in their order."""
    return [poly_power(table[0], poly, step) for poly, steps in parts_of(table) for step in steps]


def plain_form(table):
    """Return the table to which a table is alike that has companions along its diagonal."""
    check_table(table)
    p, _ = table
    return p, rows_along([companion(p, poly)[1] for poly in step_polys(table)])


def plain_base(table):
    """Return a table by which a table turned is its plain form."""
    check_table(table)
    p, rows = table
    return p, base_of_blocks(p, rows, blocks_of(table))


def are_alike(one, other):
    """Whether some turning leads a table to its fellow."""
    check_fellows(one, other)
    return parts_of(one) == parts_of(other)


def judge_alike(one, other):
    """Return a certificate that two fellows are alike, or that they are not."""
    check_fellows(one, other)
    unlike = unlike_power(parts_of(one), parts_of(other))
    if unlike is None:
        return "alike", product(undone(plain_base(other)), plain_base(one))
    poly, k = unlike
    return "ranks", poly, k


def is_turning(one, other, thing):
    """Whether any value is a table by which a table turned is its fellow."""
    if not is_fellow(one, thing) or undone(thing) is None:
        return False
    return product(thing, one) == product(other, thing)


def alike_holds(one, other, thing):
    """Whether any value is a certificate about two fellows, that they are alike or that they are not."""
    check_fellows(one, other)
    if is_certificate(thing, "alike", 2):
        return is_turning(one, other, thing[1])
    return is_certificate(thing, "ranks", 3) and are_ranks_unlike(one, other, thing[1], thing[2])

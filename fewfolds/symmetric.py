"""Symmetric tables, and tables as products of two of them."""

from fewfolds.checks import is_certificate
from fewfolds.parts import companion, plain_base, step_polys
from fewfolds.rows import rows_along, unit_rows
from fewfolds.spaces import orbit
from fewfolds.tables import check_table, is_fellow, mirror, product, undone


def is_symmetric(table):
    """Whether a table is its mirror."""
    check_table(table)
    return mirror(table) == table


def companion_factor(p, poly):
    """Return symmetric rows, which can be undone, whose product behind the companion of poly is symmetric, too.

    At (i, j) stands the last number of the row to which the first unit row is led i + j times.
    """
    _, rows = companion(p, poly)
    size = len(rows)
    last = [row[-1] for row in orbit(p, unit_rows(size)[0], rows, 2 * size - 1)]
    return tuple([tuple(last[k:k + size]) for k in range(size)])


def mirror_turning(table):
    """Return a symmetric table by which a table turned is its mirror."""
    check_table(table)
    p, _ = table
    factor = (p, rows_along([companion_factor(p, poly) for poly in step_polys(table)]))
    base = plain_base(table)
    return product(product(mirror(base), undone(factor)), base)


def symmetric_factors(table):
    """Return a certificate that a table is a product of two symmetric ones, the first of which can be undone."""
    turning = mirror_turning(table)
    return "symmetric", undone(turning), product(turning, table)


def is_symmetric_fellow(table, thing):
    """Whether any value is a symmetric fellow of a table."""
    return is_fellow(table, thing) and is_symmetric(thing)


def symmetric_hold(table, thing):
    """Whether any value is a certificate that a table is a product of two symmetric ones."""
    check_table(table)
    if not is_certificate(thing, "symmetric", 3):
        return False
    first, second = thing[1:]
    if not is_symmetric_fellow(table, first) or not is_symmetric_fellow(table, second):
        return False
    return undone(first) is not None and product(first, second) == table

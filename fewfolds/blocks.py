"""The blocks into which a table falls, and unlike ranks, for tables that are known to be right."""

from fewfolds.checks import MOST_ROWS, is_integer_within
from fewfolds.polys import at_table, is_prime_poly, poly_factors, whole_poly
from fewfolds.rows import rows_product, unit_rows
from fewfolds.spaces import climb, is_free_beside, orbit, rows_lost, stairs_of
from fewfolds.tables import power, rank


def powers_at(poly, table, most):
    """Return the rows of the powers, from 0 to most, of a polynomial at a table."""
    p, rows = table
    _, once = at_table(poly, table)
    found = [unit_rows(len(rows))]
    for _ in range(most):
        found.append(rows_product(p, found[-1], once))
    return found


def steps_of(poly, table, often):
    """Return the steps of a prime polynomial that divides the whole polynomial of a table so often."""
    p, _ = table
    degree = len(poly) - 1
    ranks = [rank((p, rows)) for rows in powers_at(poly, table, often)]
    # The rank falls from the power k to the next one by the degree for each step above k.
    above = [(ranks[k] - ranks[k + 1]) // degree for k in range(often)]
    return tuple([len([many for many in above if many > at]) for at in range(above[0])])


def block_starts(poly, table, often):
    """Return pairs (step, row) for a prime polynomial that divides the whole polynomial so often.

    The steps descend; each row and those to which the table leads it again and again, degree times step in
    all, are free, and together they span all that some power of the polynomial leads to zeros.
    """
    p, rows = table
    degree = len(poly) - 1
    powers = powers_at(poly, table, often + 1)
    lost = [rows_lost(p, told) for told in powers]
    found = []
    for step in reversed(range(1, often + 1)):
        # No start is spanned by what a lesser power leads to zeros and by what longer blocks reach.
        stairs = stairs_of(p, lost[step - 1] + rows_product(p, lost[step + 1], powers[1]))
        for row in lost[step]:
            if is_free_beside(p, row, stairs):
                found.append((step, row))
                for reached in orbit(p, row, rows, degree):
                    climb(p, reached, stairs)
    return found


def blocks_of(table):
    """Return triples (prime polynomial, step, start) of all blocks, in the order of the plain form."""
    p, _ = table
    return [(poly, step, start) for poly, often in poly_factors(p, whole_poly(table))
            for step, start in block_starts(poly, table, often)]


def block_size(block):
    """Return how many rows a block has."""
    poly, step, _ = block
    return (len(poly) - 1) * step


def block_rows(p, rows, block):
    """Return the rows of a block, each led to the next one."""
    return orbit(p, block[2], rows, block_size(block))


def base_of_blocks(p, rows, blocks):
    """Return the rows of all blocks, one block after another."""
    return tuple([row for block in blocks for row in block_rows(p, rows, block)])


def lost_at(steps, k):
    """Return what the k-th power of a prime polynomial with these steps loses, divided by its degree."""
    return sum([min(k, step) for step in steps])


def unlike_power(parts, others):
    """Return a pair (prime polynomial, k): its k-th power has unlike ranks at tables with these parts.

    None if there is none, as the parts are the same.
    """
    first, second = dict(parts), dict(others)
    for poly in sorted(list(first) + list(second)):
        for k in range(1, MOST_ROWS + 1):
            if lost_at(first.get(poly, ()), k) != lost_at(second.get(poly, ()), k):
                return poly, k
    return None


def are_ranks_unlike(one, other, poly, k):
    """Whether any two values are a prime polynomial and a k from 1 to 8 as in unlike_power for two fellows."""
    if not is_prime_poly(one[0], poly) or not is_integer_within(k, 1, MOST_ROWS):
        return False
    return rank(power(at_table(poly, one), k)) != rank(power(at_table(poly, other), k))

"""What goes with a table: its room, its polynomials, and how many tables are alike to it."""

from fewfolds.amounts import many_undoable, raised
from fewfolds.blocks import base_of_blocks, block_size, blocks_of, powers_at
from fewfolds.checks import is_certificate, is_poly_by
from fewfolds.divisors import trimmed
from fewfolds.parts import parts_of
from fewfolds.polys import at_table, least_poly
from fewfolds.rows import columns_of, row_led, swept
from fewfolds.spaces import orbit, rows_leading
from fewfolds.tables import check_fellows, check_table, is_fellow, product


def does_go_with(one, other):
    """Whether two fellows have the same product in both orders."""
    check_fellows(one, other)
    return product(one, other) == product(other, one)


def room_of_steps(steps):
    """Return the sum of the lesser ones over all pairs of steps, in both orders."""
    return sum([min(step, other) for step in steps for other in steps])


def room_of(table):
    """Return how many free tables go with a table."""
    check_table(table)
    return sum([(len(poly) - 1) * room_of_steps(steps) for poly, steps in parts_of(table)])


def leadings(p, rows, block, other):
    """Return tuples of rows to which the rows of a block are led by free tables that go with the rows.

    The other block belongs to the same prime polynomial. Where the start is led, there all else is told. It
    can be led to just what the block's own power of the polynomial leads to zeros, in the other block.
    """
    poly, step, _ = block
    _, far, start = other
    size = block_size(block)
    shift = powers_at(poly, (p, rows), max(0, far - step))[-1]
    most = min(size, block_size(other))
    reached = orbit(p, row_led(p, start, shift), rows, most + size)
    return [reached[k:k + size] for k in range(most)]


def base_of_room(table):
    """Return free tables that go with a table, as many as can be."""
    check_table(table)
    p, rows = table
    n = len(rows)
    blocks = blocks_of(table)
    base = base_of_blocks(p, rows, blocks)
    found = []
    before = 0
    for block in blocks:
        size = block_size(block)
        for other in blocks:
            if block[0] != other[0]:
                continue
            for images in leadings(p, rows, block, other):
                told = ((0,) * n,) * before + images + ((0,) * n,) * (n - before - size)
                found.append((p, rows_leading(p, base, told)))
        before += size
    return tuple(found)


def many_going(p, parts):
    """Return how many tables that go with one of these parts can be undone."""
    found = 1
    for poly, steps in parts:
        q = raised(p, len(poly) - 1)
        free = room_of_steps(steps)
        for step in range(1, steps[0] + 1):
            many = steps.count(step)
            found = found * many_undoable(q, many)
            free -= many * many
        found = found * raised(q, free)
    return found


def many_alike(table):
    """Return how many fellows are alike to a table."""
    check_table(table)
    p, rows = table
    # Two turnings lead to the same table exactly if they differ by one that goes with the first table.
    return many_undoable(p, len(rows)) // many_going(p, parts_of(table))


def poly_through(table, other):
    """Return a polynomial that is other at a table, None if there is none."""
    p, _ = table
    degree = len(least_poly(table)) - 1
    told = powers_at((0, 1), table, degree - 1) + [other[1]]
    columns = columns_of([[number for row in power for number in row] for power in told])
    done, leaders, _ = swept(p, columns, degree + 1)
    # The powers below the degree are free, so that each of them has a leader.
    if len(leaders) > degree:
        return None
    return trimmed([row[degree] for row in done[:degree]])


def judge_poly(table, other):
    """Return a certificate that a fellow is a polynomial at a table, or that it is none."""
    check_fellows(table, other)
    poly = poly_through(table, other)
    if poly is not None:
        return "poly", poly
    apart = [told for told in base_of_room(table) if not does_go_with(told, other)]
    return "apart", apart[0]


def poly_holds(table, other, thing):
    """Whether any value is a certificate that a fellow is a polynomial at a table, or that it is none."""
    check_fellows(table, other)
    if is_certificate(thing, "poly", 2):
        return is_poly_by(table[0], thing[1]) and at_table(thing[1], table) == other
    if not is_certificate(thing, "apart", 2) or not is_fellow(table, thing[1]):
        return False
    return does_go_with(table, thing[1]) and not does_go_with(thing[1], other)

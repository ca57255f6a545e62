"""Told diagonals, and two factors or parts with told values, of tables that are no number times 1.

The numbers are known to fit: they have the right sum, or the right product.
"""

from fewfolds.rows import bordered_rows, diagonal_rows, inverse_of, row_added, row_led, row_times, rows_along
from fewfolds.rows import rows_product, unit_rows
from fewfolds.spaces import are_free, free_beyond
from fewfolds.tables import taken, turned, undone


def is_number_times_one(table):
    """Whether a table is a number times 1."""
    p, rows = table
    return rows == diagonal_rows(p, (rows[0][0],) * len(rows))


def moved_row(p, rows):
    """Return a row that is led to no multiple of itself by rows that are no number times 1."""
    units = unit_rows(len(rows))
    # If each unit row is led to a multiple of itself, it is not the same one for all: then sums of two are moved.
    tried = units + tuple([row_added(p, units[0], unit, 1) for unit in units[1:]])
    return [row for row in tried if are_free(p, (row, row_led(p, row, rows)))][0]


def corner_base(p, rows, number):
    """Return rows by which these ones turned begin with the row (number, 1, 0, .., 0)."""
    first = moved_row(p, rows)
    second = row_added(p, row_led(p, first, rows), first, -number)
    return (first, second) + free_beyond(p, (first, second), unit_rows(len(rows)))


def behind_corner(table):
    """Return the table behind the first row and column."""
    p, rows = table
    return p, tuple([row[1:] for row in rows[1:]])


def left_behind(table):
    """Return the table that is left behind the first row and column, swept by the number in the corner."""
    p, rows = table
    head = rows[0]
    inverse = inverse_of(p, head[0])
    return p, tuple([row_added(p, row[1:], head[1:], -row[0] * inverse) for row in rows[1:]])


def cornered(table, number, rest_of):
    """Return a table by which this one turned begins with the row (number, 1, 0, .., 0), and it turned so.

    What rest_of (behind_corner or left_behind) tells of it is no number times 1, either, if it has two rows or
    more.
    """
    p, rows = table
    by = corner_base(p, rows, number)
    made = turned(table, (p, by))
    if len(rows) > 2 and is_number_times_one(rest_of(made)):
        # With the first row added, the third one is led, behind the corner, to more than its multiple.
        by = by[:2] + (row_added(p, by[2], by[0], 1),) + by[3:]
        made = turned(table, (p, by))
    return (p, by), made


def told_factors(table, firsts, seconds):
    """Return two fellows with the values firsts and seconds, numbers other than 0, whose product is a table.

    The table is no number times 1, or has one row; its determinant is the product of all these numbers.
    """
    p, rows = table
    if len(rows) == 1:
        return (p, ((firsts[0],),)), (p, ((seconds[0],),))
    by, made = cornered(table, firsts[0] * seconds[0] % p, left_behind)
    (_, low), (_, high) = told_factors(left_behind(made), firsts[1:], seconds[1:])
    side = row_times(p, [row[0] for row in made[1][1:]], inverse_of(p, seconds[0]))
    head = row_times(p, made[1][0][1:], inverse_of(p, firsts[0]))
    zeros = (0,) * len(head)
    left = bordered_rows(firsts[0], zeros, side, low)
    right = bordered_rows(seconds[0], head, zeros, high)
    back = undone(by)
    return turned((p, left), back), turned((p, right), back)


def told_base(table, numbers):
    """Return a table by which this one turned has these numbers as its diagonal.

    The table is no number times 1, or has one row; its diagonal sum is the sum of the numbers.
    """
    p, rows = table
    if len(rows) == 1:
        return p, unit_rows(1)
    (_, by), made = cornered(table, numbers[0], behind_corner)
    _, rest = told_base(behind_corner(made), numbers[1:])
    return p, rows_product(p, rows_along([unit_rows(1), rest]), by)


def told_parts(table, firsts, seconds):
    """Return two fellows with the values firsts and seconds whose sum is a table.

    The table is no number times 1, or has one row; its diagonal sum is the sum of all these numbers.
    """
    p, _ = table
    by = told_base(table, row_added(p, firsts, seconds, 1))
    _, made = turned(table, by)
    # What stands below the diagonal goes to the one part, and what stands above it to the other one.
    low = tuple([row[:k] + (firsts[k],) + (0,) * (len(row) - k - 1) for k, row in enumerate(made)])
    part = turned((p, low), undone(by))
    return part, taken(table, part)

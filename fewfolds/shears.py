"""Shears, and tables as products of the fewest of them."""

from fewfolds.checks import is_certificate, is_same_integer
from fewfolds.folds import moved_by, one_less, still_rows
from fewfolds.rows import row_added, row_led, unit_rows
from fewfolds.spaces import are_free, free_beyond, rows_leading
from fewfolds.tables import check_table, determinant, is_fellow, product, times, undone


def is_shear(table):
    """Whether 1 less a table has the rank 1 and comes to 0 at once."""
    check_table(table)
    less = one_less(table)
    return moved_by(table) == 1 and product(less, less) == times(less, 0)


def is_fold_beside_one(table):
    """Whether a table is 1 + c F for a number c other than 0 and a fold F other than 0."""
    check_table(table)
    less = one_less(table)
    twice = product(less, less)
    return moved_by(table) > 0 and any([twice == times(less, number) for number in range(1, table[0])])


def fewest_shears(table):
    """Return of how few shears a table is a product, None if it is none."""
    check_table(table)
    if determinant(table) != 1:
        return None
    return moved_by(table) + (1 if is_fold_beside_one(table) else 0)


def shear_on(p, base, places, row):
    """Return the table that adds a row to those of base, n free rows, at these places, and leaves the other ones."""
    images = [row_added(p, told, row, 1) if at in places else told for at, told in enumerate(base)]
    return p, rows_leading(p, base, images)


def way_of(p, rows, row):
    """Return how far rows lead a row on."""
    return row_added(p, row_led(p, row, rows), row, -1)


def lifted(table):
    """Return a shear with which 1 + c F, which moves two free rows or more, moves as much, and is no more such one."""
    p, rows = table
    still = still_rows(table)
    beyond = free_beyond(p, still, unit_rows(len(rows)))
    return shear_on(p, still + beyond, (len(still) + 1,), beyond[0])


def start_of(p, rows, still):
    """Return a row that is led on in a way that is free beside it and the still rows.

    There is none, and it is any row beyond the still ones, if each way leads to a still row.
    """
    beyond = free_beyond(p, still, unit_rows(len(rows)))
    # If the way of each row is a multiple of it, it is not the same one for all: then sums of two are as asked.
    tried = beyond + tuple([row_added(p, beyond[0], row, 1) for row in beyond[1:]])
    found = [row for row in tried if are_free(p, still + (row, way_of(p, rows, row)))]
    return found[0] if found else beyond[0]


def shear_off(table):
    """Return a table that moves less by 1, and a shear, whose product is a table that is no fold beside 1.

    Nor is the first one a fold beside 1. The shear leads some row as the table does, and leaves all still rows.
    """
    p, rows = table
    still = still_rows(table)
    start = start_of(p, rows, still)
    way = way_of(p, rows, start)
    base = free_beyond(p, (), still + (start, way) + unit_rows(len(rows)))
    shear = shear_on(p, base, (len(still),), way)
    rest = product(table, undone(shear))
    if is_fold_beside_one(rest):
        # Another shear with the same way leaves more than a multiple of what is moved.
        shear = shear_on(p, base, (len(still), len(rows) - 1), way)
        rest = product(table, undone(shear))
    return rest, shear


def shear_factors(table):
    """Return the fewest shears whose product is a table with the determinant 1."""
    found = []
    if is_fold_beside_one(table):
        found.append(lifted(table))
        table = product(table, undone(found[0]))
    while moved_by(table) > 0:
        table, shear = shear_off(table)
        found.append(shear)
    return tuple(found[::-1])


def judge_shears(table):
    """Return a certificate that a table is a product of the fewest shears, or that it is none of shears."""
    check_table(table)
    number = determinant(table)
    if number != 1:
        return "determinant", number
    return "shears", shear_factors(table)


def are_shears_of(table, thing):
    """Whether any value is a tuple of shears, as many as the fewest, whose product is a table."""
    if not isinstance(thing, tuple) or len(thing) != fewest_shears(table):
        return False
    p, rows = table
    found = (p, unit_rows(len(rows)))
    for part in thing:
        if not is_fellow(table, part) or not is_shear(part):
            return False
        found = product(found, part)
    return found == table


def shears_hold(table, thing):
    """Whether any value is a certificate that a table is a product of shears, or that it is none."""
    check_table(table)
    if is_certificate(thing, "shears", 2):
        return are_shears_of(table, thing[1])
    if not is_certificate(thing, "determinant", 2):
        return False
    return is_same_integer(thing[1], determinant(table)) and thing[1] != 1

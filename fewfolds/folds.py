"""Folds, what tables lose and move, and tables as products of folds."""

from fewfolds.checks import MOST_ROWS, are_numbers, check_prime, is_certificate, is_integer, is_integer_within
from fewfolds.checks import is_row
from fewfolds.errors import BadNumber, BadRow
from fewfolds.rows import row_added, rows_product, unit_rows
from fewfolds.spaces import are_free, climb, free_beyond, free_positions, is_free_beside, rows_leading
from fewfolds.spaces import rows_lost, stairs_of
from fewfolds.tables import check_table, is_fellow, one, product, rank, taken


def is_fold(table):
    """Whether a table does twice what it does once."""
    check_table(table)
    return product(table, table) == table


def one_less(table):
    """Return 1 less a table."""
    return taken(one(table[0], len(table[1])), table)


def lost_by(table):
    """Return the size of a table less its rank."""
    check_table(table)
    return len(table[1]) - rank(table)


def moved_by(table):
    """Return the rank of 1 less a table."""
    check_table(table)
    return rank(one_less(table))


def lost_rows(table):
    """Return free rows, as many as can be, that a table leads to zeros."""
    check_table(table)
    p, rows = table
    return rows_lost(p, rows)


def still_rows(table):
    """Return free rows, as many as can be, that a table leads to themselves."""
    check_table(table)
    return lost_rows(one_less(table))


def check_rows(p, thing):
    """Raise BadRow with a value that is no tuple of rows of one length from 1 to 8."""
    if thing == ():
        return
    if not isinstance(thing, tuple) or not are_numbers(p, thing[0]):
        raise BadRow(thing)
    n = len(thing[0])
    if not is_integer_within(n, 1, MOST_ROWS) or not all([is_row(p, n, row) for row in thing]):
        raise BadRow(thing)


def fold_with(p, stay, lost):
    """Return the fold that leads the rows of stay to themselves, and those of lost to zeros."""
    check_prime(p)
    check_rows(p, stay)
    check_rows(p, lost)
    base = stay + lost
    n = len(base)
    if n == 0 or not all([len(row) == n for row in base]) or not are_free(p, base):
        raise BadRow((stay, lost))
    return p, rows_leading(p, base, stay + ((0,) * n,) * len(lost))


def fewest_folds(table):
    """Return the least k such that a table is a product of k folds, None if there is none."""
    check_table(table)
    lost = lost_by(table)
    moved = moved_by(table)
    if moved == 0:
        return 0
    if lost == 0:
        return None
    return (moved + lost - 1) // lost


def beside_both(p, n, stairs, others):
    """Return a row of length n that is free beside stairs, and beside others; both span less than all rows."""
    units = unit_rows(n)
    first = [unit for unit in units if is_free_beside(p, unit, stairs)][0]
    second = [unit for unit in units if is_free_beside(p, unit, others)][0]
    if is_free_beside(p, first, others):
        return first
    if is_free_beside(p, second, stairs):
        return second
    return row_added(p, first, second, 1)


def common_beyond(p, n, rows, others):
    """Return rows that make up n free ones with rows, and also with others, which are as many free ones."""
    stairs = stairs_of(p, rows)
    beside = stairs_of(p, others)
    found = []
    while len(stairs) < n:
        row = beside_both(p, n, stairs, beside)
        climb(p, row, stairs)
        climb(p, row, beside)
        found.append(row)
    return tuple(found)


def fold_split(table):
    """Return a fold and a table whose product is a table that loses something and is no fold.

    The fold loses what the table does. The other one moves less by that, and loses as much, or is a fold.
    """
    p, rows = table
    n = len(rows)
    lost = lost_rows(table)
    still = still_rows(table)
    # To lose much, the other one leaves as they are, beside the still rows, first such that the table reaches.
    fixed = free_beyond(p, still, rows + unit_rows(n))[:len(lost)]
    # It leads what the fold keeps as the table does: this has, beside the still rows, none of the fixed ones.
    kept = still + common_beyond(p, n, still + lost, still + fixed)
    other = rows_leading(p, kept + fixed, rows_product(p, kept, rows) + fixed)
    return fold_with(p, kept, lost), (p, other)


def fold_factors(table):
    """Return the fewest folds whose product is a table that loses something, or is 1."""
    found = []
    while not is_fold(table):
        fold, table = fold_split(table)
        found.append(fold)
    if moved_by(table) != 0:
        found.append(table)
    return tuple(found)


def check_many(k):
    """Raise BadNumber with a value that is no integer from 0 on."""
    if not is_integer(k) or k < 0:
        raise BadNumber(k)


def judge_folds(table, k):
    """Return a certificate that a table is a product of k folds, or that it is none."""
    check_table(table)
    check_many(k)
    p, rows = table
    if k * lost_by(table) < moved_by(table):
        return "bar", free_positions(p, rows), free_positions(p, one_less(table)[1])
    folds = fold_factors(table)
    return "folds", folds + (one(p, len(rows)),) * (k - len(folds))


def are_folds_of(table, k, thing):
    """Whether any value is a tuple of k folds whose product is a table."""
    if not isinstance(thing, tuple) or len(thing) != k:
        return False
    found = one(table[0], len(table[1]))
    for part in thing:
        if not is_fellow(table, part) or not is_fold(part):
            return False
        found = product(found, part)
    return found == table


def are_free_at(p, rows, thing):
    """Whether any value is an ascending tuple of positions of rows that are free."""
    if not isinstance(thing, tuple) or not all([is_integer_within(at, 0, len(rows) - 1) for at in thing]):
        return False
    if not all([first < second for first, second in zip(thing, thing[1:])]):
        return False
    return are_free(p, [rows[at] for at in thing])


def is_bar(table, k, kept, moved):
    """Whether any two values tell that a table loses too little to be a product of k folds."""
    p, rows = table
    if not are_free_at(p, rows, kept) or not are_free_at(p, one_less(table)[1], moved):
        return False
    return k * (len(rows) - len(kept)) < len(moved)


def folds_hold(table, k, thing):
    """Whether any value is a certificate that a table is a product of k folds, or that it is none."""
    check_table(table)
    check_many(k)
    if is_certificate(thing, "folds", 2):
        return are_folds_of(table, k, thing[1])
    return is_certificate(thing, "bar", 3) and is_bar(table, k, thing[1], thing[2])

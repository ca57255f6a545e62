"""Told diagonals, and tables as products and sums of two with told values."""

from fewfolds.checks import is_certificate, is_row, is_same_integer
from fewfolds.errors import BadNumbers, Lost
from fewfolds.polys import poly_product, whole_poly
from fewfolds.rows import diagonal_rows, inverse_of, unit_rows
from fewfolds.spaces import rows_lost
from fewfolds.splits import is_number_times_one, told_base, told_factors, told_parts
from fewfolds.tables import added, check_table, determinant, diagonal_sum, is_fellow, product, rank, taken, turned
from fewfolds.tables import undone


def is_number(table):
    """Whether a table is a number times 1."""
    check_table(table)
    return is_number_times_one(table)


def check_numbers(table, thing, least):
    """Raise BadNumbers with a value that is no tuple of as many numbers as the size, from least on."""
    p, rows = table
    if not is_row(p, len(rows), thing) or min(thing) < least:
        raise BadNumbers(thing)


def is_its_number(table, thing):
    """Whether a table is a number times 1, and any value is this number."""
    return is_number(table) and is_same_integer(thing, table[1][0][0])


def is_diagonal(table, numbers):
    """Whether a table has these numbers as its diagonal."""
    return tuple([row[k] for k, row in enumerate(table[1])]) == numbers


def judge_diagonal(table, numbers):
    """Return a certificate that a table is alike to one with these numbers as its diagonal, or that it is not."""
    check_table(table)
    check_numbers(table, numbers, 0)
    p, rows = table
    total = diagonal_sum(table)
    if total != sum(numbers) % p:
        return "sum", total
    if not is_number(table):
        return "turned", told_base(table, numbers)
    if is_diagonal(table, numbers):
        return "turned", (p, unit_rows(len(rows)))
    return "number", rows[0][0]


def diagonal_holds(table, numbers, thing):
    """Whether any value is a certificate about a table and a told diagonal."""
    check_table(table)
    check_numbers(table, numbers, 0)
    if is_certificate(thing, "turned", 2):
        by = thing[1]
        return is_fellow(table, by) and undone(by) is not None and is_diagonal(turned(table, by), numbers)
    if is_certificate(thing, "sum", 2):
        return is_same_integer(thing[1], diagonal_sum(table)) and thing[1] != sum(numbers) % table[0]
    if not is_certificate(thing, "number", 2):
        return False
    return is_its_number(table, thing[1]) and not is_diagonal(table, numbers)


def poly_with(p, numbers):
    """Return the product of all x - b for the numbers b."""
    found = (1,)
    for number in numbers:
        found = poly_product(p, found, (-number % p, 1))
    return found


def have_values(table, one, other, first, second):
    """Whether any two values are fellows of a table with the values first, and second."""
    p, _ = table
    if not is_fellow(table, one) or not is_fellow(table, other):
        return False
    return whole_poly(one) == poly_with(p, first) and whole_poly(other) == poly_with(p, second)


def number_product(p, numbers):
    """Return the product of numbers."""
    found = 1
    for number in numbers:
        found = found * number % p
    return found


def check_factors(table, first, second):
    """Raise the error for a wrong table, for wrong numbers, and for a table that cannot be undone."""
    check_table(table)
    check_numbers(table, first, 1)
    check_numbers(table, second, 1)
    p, rows = table
    if rank(table) < len(rows):
        raise Lost(rows_lost(p, rows)[0])


def do_factors_fit(table, first, second):
    """Whether the numbers fit as values of two factors of a table that is a number times 1."""
    p, rows = table
    return sorted([rows[0][0] * inverse_of(p, number) % p for number in first]) == sorted(second)


def judge_factors(table, first, second):
    """Return a certificate that a table is a product of two with told values, or that it is none."""
    check_factors(table, first, second)
    p, rows = table
    worth = determinant(table)
    if worth != number_product(p, first + second):
        return "determinant", worth
    if not is_number(table):
        return ("factors",) + told_factors(table, first, second)
    if not do_factors_fit(table, first, second):
        return "number", rows[0][0]
    factor = (p, diagonal_rows(p, first))
    return "factors", factor, product(undone(factor), table)


def factors_hold(table, first, second, thing):
    """Whether any value is a certificate about a table and two factors with told values."""
    check_factors(table, first, second)
    if is_certificate(thing, "factors", 3):
        return have_values(table, thing[1], thing[2], first, second) and product(thing[1], thing[2]) == table
    if is_certificate(thing, "determinant", 2):
        worth = number_product(table[0], first + second)
        return is_same_integer(thing[1], determinant(table)) and thing[1] != worth
    if not is_certificate(thing, "number", 2):
        return False
    return is_its_number(table, thing[1]) and not do_factors_fit(table, first, second)


def check_sum(table, first, second):
    """Raise the error for a wrong table, and for wrong numbers."""
    check_table(table)
    check_numbers(table, first, 0)
    check_numbers(table, second, 0)


def do_parts_fit(table, first, second):
    """Whether the numbers fit as values of two parts of a table that is a number times 1."""
    p, rows = table
    return sorted([(rows[0][0] - number) % p for number in first]) == sorted(second)


def judge_sum(table, first, second):
    """Return a certificate that a table is a sum of two with told values, or that it is none."""
    check_sum(table, first, second)
    p, rows = table
    total = diagonal_sum(table)
    if total != sum(first + second) % p:
        return "sum", total
    if not is_number(table):
        return ("parts",) + told_parts(table, first, second)
    if not do_parts_fit(table, first, second):
        return "number", rows[0][0]
    part = (p, diagonal_rows(p, first))
    return "parts", part, taken(table, part)


def sum_holds(table, first, second, thing):
    """Whether any value is a certificate about a table and two parts with told values."""
    check_sum(table, first, second)
    if is_certificate(thing, "parts", 3):
        return have_values(table, thing[1], thing[2], first, second) and added(thing[1], thing[2]) == table
    if is_certificate(thing, "sum", 2):
        total = sum(first + second) % table[0]
        return is_same_integer(thing[1], diagonal_sum(table)) and thing[1] != total
    if not is_certificate(thing, "number", 2):
        return False
    return is_its_number(table, thing[1]) and not do_parts_fit(table, first, second)

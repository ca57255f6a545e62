"""Fallers, and tables as sums of two fallers and of two that come to 0 at once."""

from fewfolds.blocks import are_ranks_unlike, unlike_power
from fewfolds.checks import is_certificate, is_same_integer
from fewfolds.divisors import made_monic
from fewfolds.errors import BadPrime
from fewfolds.flips import flip_through
from fewfolds.parts import parts_of
from fewfolds.rows import unit_rows
from fewfolds.splits import is_number_times_one, told_parts
from fewfolds.tables import added, check_table, diagonal_sum, is_fellow, power, product, taken, times, zero


def zero_beside(table):
    """Return the table 0 that is a fellow of a table."""
    p, rows = table
    return zero(p, len(rows))


def is_faller(table):
    """Whether some power of a table is 0."""
    check_table(table)
    return power(table, len(table[1])) == zero_beside(table)


def judge_fallers(table):
    """Return a certificate that a table is a sum of two fallers, or that it is none."""
    check_table(table)
    _, rows = table
    total = diagonal_sum(table)
    if total != 0:
        return "sum", total
    if not is_number_times_one(table):
        zeros = (0,) * len(rows)
        return ("fallers",) + told_parts(table, zeros, zeros)
    if rows[0][0] != 0:
        return "number", rows[0][0]
    return "fallers", table, table


def is_sum_of_fellows(table, one, other):
    """Whether any two values are fellows of a table with the sum."""
    return is_fellow(table, one) and is_fellow(table, other) and added(one, other) == table


def fallers_hold(table, thing):
    """Whether any value is a certificate that a table is a sum of two fallers, or that it is none."""
    check_table(table)
    if is_certificate(thing, "fallers", 3):
        return is_sum_of_fellows(table, thing[1], thing[2]) and is_faller(thing[1]) and is_faller(thing[2])
    if is_certificate(thing, "sum", 2):
        return is_same_integer(thing[1], diagonal_sum(table)) and thing[1] != 0
    if not is_certificate(thing, "number", 2):
        return False
    return is_number_times_one(table) and is_same_integer(thing[1], table[1][0][0]) and thing[1] != 0


def does_come_at_once(table):
    """Whether the second power of a table is 0."""
    return product(table, table) == zero_beside(table)


def opposite_of(table):
    """Return -A of a table A."""
    return taken(zero_beside(table), table)


def opposite_poly(p, poly):
    """Return the prime polynomial whose roots are the opposites of the roots of one."""
    return made_monic(p, tuple([number if k % 2 == 0 else -number % p for k, number in enumerate(poly)]))


def parts_at_once(table):
    """Return two that come to 0 at once whose sum is a table that is alike to its opposite, by an odd p."""
    p, rows = table
    flip = flip_through(table, opposite_of(table), opposite_poly)
    # The table leads what the flip leaves to what it turns to its opposite, and back: each way comes to 0 at once.
    fold = times(added(flip, (p, unit_rows(len(rows)))), (p + 1) // 2)
    part = product(fold, table)
    return part, taken(table, part)


def check_at_once(table):
    """Raise BadTable with a value that is no table, and BadPrime with 2 if it is one by 2."""
    check_table(table)
    if table[0] == 2:
        raise BadPrime(2)


def judge_at_once(table):
    """Return a certificate that a table is a sum of two that come to 0 at once, or that it is none."""
    check_at_once(table)
    unlike = unlike_power(parts_of(table), parts_of(opposite_of(table)))
    if unlike is None:
        return ("at once",) + parts_at_once(table)
    poly, k = unlike
    return "apart", poly, k


def at_once_holds(table, thing):
    """Whether any value is a certificate that a table is a sum of two that come to 0 at once, or that it is none."""
    check_at_once(table)
    if is_certificate(thing, "at once", 3):
        ways = is_sum_of_fellows(table, thing[1], thing[2])
        return ways and does_come_at_once(thing[1]) and does_come_at_once(thing[2])
    return is_certificate(thing, "apart", 3) and are_ranks_unlike(table, opposite_of(table), thing[1], thing[2])

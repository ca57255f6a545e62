"""Tables by a prime: sums, products, ranks, turnings and texts."""

from fewfolds.checks import MOST_ROWS, PRIMES, check_prime, is_integer, is_integer_within
from fewfolds.checks import is_number_by, is_prime, is_row
from fewfolds.errors import BadNumber, BadRow, BadTable, BadText, Lost, OtherTable
from fewfolds.rows import columns_of, row_led, row_times, rows_added, rows_power, rows_product
from fewfolds.rows import swept, swept_beside_units, unit_rows


def is_table(thing):
    """Whether a value is a table."""
    if not isinstance(thing, tuple) or len(thing) != 2:
        return False
    p, rows = thing
    if not is_prime(p) or not isinstance(rows, tuple) or not is_integer_within(len(rows), 1, MOST_ROWS):
        return False
    return all([is_row(p, len(rows), row) for row in rows])


def check_table(thing):
    """Raise BadTable with a value that is no table."""
    if not is_table(thing):
        raise BadTable(thing)


def check_fellows(first, second):
    """Raise BadTable with the first value that is no table, and OtherTable if the two are no fellows."""
    check_table(first)
    check_table(second)
    if not is_fellow(first, second):
        raise OtherTable(second)


def is_fellow(table, thing):
    """Whether a value is a fellow of a table."""
    return is_table(thing) and thing[0] == table[0] and len(thing[1]) == len(table[1])


def check_size(p, n):
    """Raise BadPrime with a wrong p, and BadNumber with an n that is no size."""
    check_prime(p)
    if not is_integer_within(n, 1, MOST_ROWS):
        raise BadNumber(n)


def one(p, n):
    """Return the table 1 of the size n."""
    check_size(p, n)
    return p, unit_rows(n)


def zero(p, n):
    """Return the table 0 of the size n."""
    check_size(p, n)
    return p, ((0,) * n,) * n


def product(one, other):
    """Return the table that leads a row as one, and then other, do."""
    check_fellows(one, other)
    p, rows = one
    return p, rows_product(p, rows, other[1])


def added(one, other):
    """Return the sum of two fellows."""
    check_fellows(one, other)
    p, rows = one
    return p, rows_added(p, rows, other[1], 1)


def taken(one, other):
    """Return the difference of two fellows."""
    check_fellows(one, other)
    p, rows = one
    return p, rows_added(p, rows, other[1], -1)


def times(table, number):
    """Return a table with all numbers times number."""
    check_table(table)
    p, rows = table
    if not is_number_by(p, number):
        raise BadNumber(number)
    return p, tuple([row_times(p, row, number) for row in rows])


def power(table, k):
    """Return the k-th power of a table, 1 if k is 0."""
    check_table(table)
    if not is_integer(k) or k < 0:
        raise BadNumber(k)
    p, rows = table
    return p, rows_power(p, rows, k)


def undone(table):
    """Return the undoing of a table, None if there is none."""
    check_table(table)
    p, rows = table
    sides, found = swept_beside_units(p, rows)
    return (p, tuple(sides)) if found == len(rows) else None


def rank(table):
    """Return the greatest number of free rows among the rows of a table."""
    check_table(table)
    p, rows = table
    return len(swept(p, rows, len(rows))[1])


def determinant(table):
    """Return the determinant of a table."""
    check_table(table)
    p, rows = table
    _, leaders, factor = swept(p, rows, len(rows))
    return factor if len(leaders) == len(rows) else 0


def diagonal_sum(table):
    """Return the sum of the numbers on the diagonal of a table."""
    check_table(table)
    p, rows = table
    return sum([row[k] for k, row in enumerate(rows)]) % p


def mirror(table):
    """Return the mirror of a table."""
    check_table(table)
    p, rows = table
    return p, columns_of(rows)


def led(table, row):
    """Return the row to which a table leads a row."""
    check_table(table)
    p, rows = table
    if not is_row(p, len(rows), row):
        raise BadRow(row)
    return row_led(p, row, rows)


def turned(table, by):
    """Return a table turned by a fellow, which can be undone."""
    check_fellows(table, by)
    p, rows = table
    sides, found = swept_beside_units(p, by[1])
    if found < len(rows):
        raise Lost(sides[found])
    return p, rows_product(p, rows_product(p, by[1], rows), sides)


def text_of(table):
    """Return the text of a table."""
    check_table(table)
    p, rows = table
    lines = [" ".join([str(number) for number in row]) for row in rows]
    return "\n".join([f"table {p} {len(rows)}"] + lines)


def number_written(word, numbers):
    """Return the one of the numbers that a word is, as Python writes it, or None."""
    found = [number for number in numbers if str(number) == word]
    return found[0] if found else None


def read_head(line):
    """Return the prime and the size that the first line of a text tells."""
    words = line.split(" ")
    if len(words) != 3 or words[0] != "table":
        raise BadText(1)
    p = number_written(words[1], PRIMES)
    n = number_written(words[2], list(range(1, MOST_ROWS + 1)))
    if p is None or n is None:
        raise BadText(1)
    return p, n


def read_row(p, line):
    """Return the numbers by p of a line, with None for each word that is none."""
    return tuple([number_written(word, list(range(p))) for word in line.split(" ")])


def read_table(text):
    """Return the table that has a text."""
    if not isinstance(text, str):
        raise BadText(0)
    lines = text.split("\n")
    p, n = read_head(lines[0])
    rows = [read_row(p, line) for line in lines[1:n + 1]]
    for at, row in enumerate(rows):
        if not is_row(p, n, row):
            raise BadText(at + 2)
    if len(lines) != n + 1:
        # The line behind the last one that is as it should be: it is missing, or it is too much.
        raise BadText(len(rows) + 2)
    return p, tuple(rows)

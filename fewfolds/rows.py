"""Arithmetic by p on single rows and on tuples of rows, which are known to be right."""


def inverse_of(p, number):
    """Return what makes 1 with a number other than 0."""
    found = 1
    for _ in range(p - 2):
        found = found * number % p
    return found


def row_times(p, row, factor):
    """Return a row with all numbers times factor."""
    return tuple([number * factor % p for number in row])


def row_added(p, row, other, factor):
    """Return a row and factor times another one, number by number."""
    return tuple([(x + factor * y) % p for x, y in zip(row, other)])


def row_led(p, row, rows):
    """Return the row to which the rows lead a row."""
    return tuple([sum([x * y for x, y in zip(row, column)]) % p for column in zip(*rows)])


def unit_rows(n):
    """Return the rows of the table 1."""
    return tuple([tuple([1 if i == k else 0 for k in range(n)]) for i in range(n)])


def diagonal_rows(p, numbers):
    """Return the rows with these numbers on the diagonal, and 0 elsewhere."""
    return tuple([row_times(p, unit, number) for unit, number in zip(unit_rows(len(numbers)), numbers)])


def bordered_rows(corner, head, side, rows):
    """Return rows with a number in the corner, head behind it, side below it, and square rows behind both."""
    return ((corner,) + tuple(head),) + tuple([(number,) + row for number, row in zip(side, rows)])


def rows_along(blocks):
    """Return the rows that have these blocks, square rows, along the diagonal, and 0 elsewhere."""
    size = sum([len(block) for block in blocks])
    made = []
    for block in blocks:
        before = (0,) * len(made)
        behind = (0,) * (size - len(made) - len(block))
        made.extend([before + row + behind for row in block])
    return tuple(made)


def columns_of(rows):
    """Return the columns of rows, as rows."""
    return tuple([tuple(column) for column in zip(*rows)])


def rows_added(p, rows, others, factor):
    """Return rows and factor times other ones, number by number."""
    return tuple([row_added(p, row, other, factor) for row, other in zip(rows, others)])


def rows_product(p, rows, others):
    """Return the rows that lead as rows, and then others, do."""
    return tuple([row_led(p, row, others) for row in rows])


def rows_power(p, rows, k):
    """Return the rows that lead as k times the rows do."""
    found = unit_rows(len(rows))
    square = rows
    while k > 0:
        if k % 2 == 1:
            found = rows_product(p, found, square)
        square = rows_product(p, square, square)
        k = k // 2
    return found


def swept(p, rows, width):
    """Sweep the first columns of rows, width in number, as far as rows with a number there reach.

    Return the new rows, the columns that have a leader (the row k has the 1 of the k-th one, and all
    other rows have 0 there), and the product of the numbers by which the leaders were divided, turned
    to its negative with each exchange of two rows.
    """
    rows = list(rows)
    leaders = []
    factor = 1
    for column in range(width):
        top = len(leaders)
        places = [k for k in range(top, len(rows)) if rows[k][column] != 0]
        if places == []:
            continue
        at = places[0]
        number = rows[at][column]
        leader = row_times(p, rows[at], inverse_of(p, number))
        factor = factor * number % p
        if at != top:
            rows[at] = rows[top]
            factor = -factor % p
        rows = [row_added(p, row, leader, -row[column]) for row in rows]
        rows[top] = leader
        leaders.append(column)
    return rows, leaders, factor


def swept_beside_units(p, rows):
    """Sweep square rows with the unit rows beside them.

    Return the new right-hand sides and how many leaders there are. If all rows have one, the right-hand
    sides undo the rows; otherwise those behind the leaders are free rows that are led to zeros, as many
    as can be.
    """
    n = len(rows)
    beside = [tuple(row) + unit for row, unit in zip(rows, unit_rows(n))]
    done, leaders, _ = swept(p, beside, n)
    return [row[n:] for row in done], len(leaders)

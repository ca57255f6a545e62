"""Free rows and what they span, by p, for rows that are known to be right."""

from fewfolds.rows import inverse_of, row_added, row_led, row_times, rows_product, swept_beside_units


def less_stairs(p, row, stairs):
    """Return a row less such multiples of the stairs that it has 0 in the column of each of them.

    Stairs are pairs (column, row): the row has 1 in its column and 0 in those of the stairs ahead of it.
    """
    for column, stair in stairs:
        row = row_added(p, row, stair, -row[column])
    return row


def is_free_beside(p, row, stairs):
    """Whether a row is no sum of multiples of the stairs."""
    return any(less_stairs(p, row, stairs))


def climb(p, row, stairs):
    """Add a row to the stairs if it is free beside them; return whether it is."""
    rest = less_stairs(p, row, stairs)
    columns = [k for k, number in enumerate(rest) if number != 0]
    if columns == []:
        return False
    stairs.append((columns[0], row_times(p, rest, inverse_of(p, rest[columns[0]]))))
    return True


def stairs_of(p, rows):
    """Return stairs that span what rows do."""
    stairs = []
    for row in rows:
        climb(p, row, stairs)
    return stairs


def free_positions(p, rows):
    """Return the positions of the rows that are free beside those ahead of them."""
    stairs = []
    found = []
    for at, row in enumerate(rows):
        if climb(p, row, stairs):
            found.append(at)
    return tuple(found)


def are_free(p, rows):
    """Whether rows are free."""
    return len(free_positions(p, rows)) == len(rows)


def free_beyond(p, base, rows):
    """Return those of the rows that are free beside base and beside those ahead of them."""
    stairs = stairs_of(p, base)
    found = []
    for row in rows:
        if climb(p, row, stairs):
            found.append(row)
    return tuple(found)


def rows_lost(p, rows):
    """Return free rows, as many as can be, that square rows lead to zeros."""
    sides, found = swept_beside_units(p, rows)
    return tuple(sides[found:])


def rows_leading(p, base, images):
    """Return the rows that lead each row of base, n free ones, to the one of images at its position."""
    undoing, _ = swept_beside_units(p, base)
    return rows_product(p, undoing, images)


def orbit(p, row, rows, many):
    """Return a row and those to which rows lead it again and again, many in all."""
    found = []
    for _ in range(many):
        found.append(row)
        row = row_led(p, row, rows)
    return tuple(found)

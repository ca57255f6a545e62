"""Exchanges A B - B A, and tables as exchanges."""

from fewfolds.blocks import base_of_blocks, block_size, blocks_of
from fewfolds.checks import is_certificate, is_same_integer
from fewfolds.rows import bordered_rows, columns_of, diagonal_rows, row_added, row_led, row_times, rows_added
from fewfolds.rows import rows_along, rows_product, swept_beside_units, unit_rows
from fewfolds.tables import check_fellows, check_table, diagonal_sum, is_fellow, product, taken, turned, undone


def exchange(one, other):
    """Return the product of two fellows less their product in the other order."""
    check_fellows(one, other)
    return taken(product(one, other), product(other, one))


def fall_of(n):
    """Return the rows that lead each unit row to the one ahead of it, and the first one to zeros."""
    return ((0,) * n,) + unit_rows(n)[:-1]


def fall_partner(p, rows):
    """Return rows with which the fall of this size makes the exchange rows.

    The sum along the diagonal of rows, and along each line beside it on the right, is 0.
    """
    fall = fall_of(len(rows))
    found = [(0,) * len(rows)]
    for row in reversed(rows[1:]):
        found.append(row_added(p, row, row_led(p, found[-1], fall), 1))
    return tuple(found[::-1])


def corner_pair(p, rows):
    """Return rows, twice, that make the exchange rows, which have 0 in the corner.

    What is behind their first row and column is such as fall_partner takes.
    """
    fall = fall_of(len(rows) - 1)
    # In the corner stands the value 0, behind it 1 alone: this makes each row and column between the two.
    shifted = rows_added(p, unit_rows(len(fall)), fall, 1)
    back, _ = swept_beside_units(p, shifted)
    head = row_times(p, row_led(p, rows[0][1:], back), -1)
    side = row_led(p, [row[0] for row in rows[1:]], columns_of(back))
    behind = fall_partner(p, [row[1:] for row in rows[1:]])
    return rows_along([((0,),), shifted]), bordered_rows(0, head, side, behind)


def link_signs(links):
    """Return 1 and -1, as many as rows: rows times these turn the links other than 0 to 1 and -1 by turns.

    A link is what leads a row to the next one: 0 or 1.
    """
    signs = [1]
    turn = 1
    for link in links:
        signs.append(signs[-1] * turn)
        if link != 0:
            turn = -turn
    return signs


def exchanged_pair(table):
    """Return two fellows that make the exchange table, whose diagonal sum is 0.

    Turned to companions along the diagonal, the table has nothing above the diagonal but links. An even number
    of them, 1 and -1 by turns, has the sum 0; of an odd one the corner takes the first.
    """
    p, rows = table
    blocks = sorted(blocks_of(table), key=lambda block: -block_size(block))
    base = base_of_blocks(p, rows, blocks)
    _, linked = turned(table, (p, base))
    links = [row[k + 1] for k, row in enumerate(linked[:-1])]
    by = (p, rows_product(p, diagonal_rows(p, link_signs(links)), base))
    _, made = turned(table, by)
    if sum(links) % 2 == 0:
        first, second = fall_of(len(made)), fall_partner(p, made)
    else:
        first, second = corner_pair(p, made)
    back = undone(by)
    return turned((p, first), back), turned((p, second), back)


def judge_exchange(table):
    """Return a certificate that a table is an exchange, or that it is none."""
    check_table(table)
    number = diagonal_sum(table)
    if number != 0:
        return "sum", number
    return ("exchange",) + exchanged_pair(table)


def exchange_holds(table, thing):
    """Whether any value is a certificate that a table is an exchange, or that it is none."""
    check_table(table)
    if is_certificate(thing, "exchange", 3):
        fellows = is_fellow(table, thing[1]) and is_fellow(table, thing[2])
        return fellows and exchange(thing[1], thing[2]) == table
    if not is_certificate(thing, "sum", 2):
        return False
    return is_same_integer(thing[1], diagonal_sum(table)) and thing[1] != 0

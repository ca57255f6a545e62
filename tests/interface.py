"""What the interface lists: for each function its parameters, and the errors for wrong arguments, in their order."""

from fewfolds import counts, exchanges, fallers, flips, folds, goings, parts, polys, shears, squares, symmetric
from fewfolds import tables, told
from kinds import are_free_rows
from support import says_fellows, says_integer, says_numbers, says_poly, says_prime, says_size, says_table

NO_TABLE, NO_FELLOW, NO_ROW, NO_NUMBER = "BadTable", "OtherTable", "BadRow", "BadNumber"
NO_PRIME, NO_POLY, NO_NUMBERS, NO_WORD = "BadPrime", "BadPoly", "BadNumbers", "BadWord"
COUNTED = ("tables", "undoable", "folds", "flips", "fallers", "at once", "symmetric")


def wrong_table(table):
    return None if says_table(table) else (NO_TABLE, table)


def wrong_prime(p):
    return None if says_prime(p) else (NO_PRIME, p)


def wrong_fellows(one, other):
    return wrong_table(one) or wrong_table(other) or (None if says_fellows(one, other) else (NO_FELLOW, other))


def wrong_turned(table, by):
    wrong = wrong_fellows(table, by)
    if wrong is None and tables.determinant(by) == 0:
        return "Lost", None
    return wrong


def wrong_made(p, n):
    return wrong_prime(p) or (None if says_size(n) else (NO_NUMBER, n))


def wrong_times(table, number):
    return wrong_table(table) or (None if says_numbers(table[0], (number,)) else (NO_NUMBER, number))


def wrong_power(table, k):
    return wrong_table(table) or (None if says_integer(k) and k >= 0 else (NO_NUMBER, k))


def wrong_led(table, row):
    wrong = wrong_table(table)
    if wrong is None and not (says_numbers(table[0], row) and len(row) == len(table[1])):
        return NO_ROW, row
    return wrong


def wrong_poly_of(p, poly):
    return None if says_poly(p, poly) else (NO_POLY, poly)


def wrong_factors(p, poly):
    return wrong_prime(p) or wrong_poly_of(p, poly) or ((NO_POLY, poly) if poly == () else None)


def wrong_companion(p, poly):
    wrong = wrong_prime(p)
    if wrong is None and not (says_poly(p, poly) and 2 <= len(poly) <= 9 and poly[-1] == 1):
        return NO_POLY, poly
    return wrong


def wrong_many(table, k):
    return wrong_table(table) or (None if says_integer(k) and k >= 0 else (NO_NUMBER, k))


def wrong_rows(p, rows):
    right = type(rows) is tuple and all(says_numbers(p, row) and 1 <= len(row) <= 8 for row in rows)
    return None if right and len({len(row) for row in rows}) < 2 else (NO_ROW, rows)


def wrong_fold(p, stay, lost):
    wrong = wrong_prime(p) or wrong_rows(p, stay) or wrong_rows(p, lost)
    if wrong is None:
        rows = stay + lost
        if rows == () or any(len(row) != len(rows) for row in rows) or not are_free_rows(p, rows):
            return NO_ROW, (stay, lost)
    return wrong


def wrong_numbers(table, numbers, least=0):
    right = says_numbers(table[0], numbers) and len(numbers) == len(table[1]) and min(numbers) >= least
    return None if right else (NO_NUMBERS, numbers)


def wrong_diagonal(table, numbers):
    return wrong_table(table) or wrong_numbers(table, numbers)


def wrong_sum(table, first, second):
    return wrong_table(table) or wrong_numbers(table, first) or wrong_numbers(table, second)


def wrong_factors_of(table, first, second):
    wrong = wrong_table(table) or wrong_numbers(table, first, 1) or wrong_numbers(table, second, 1)
    if wrong is None and not are_free_rows(*table):
        return "Lost", None
    return wrong


def wrong_at_once(table):
    return wrong_table(table) or ((NO_PRIME, 2) if table[0] == 2 else None)


def wrong_counted(p, n):
    return wrong_prime(p) or (None if says_integer(n) and 1 <= n <= 30 else (NO_NUMBER, n))


def wrong_count(word, p, n):
    return (None if type(word) is str and word in COUNTED else (NO_WORD, word)) or wrong_counted(p, n)


def wrong_third(p, n, third):
    return wrong_counted(p, n) or (None if says_integer(third) and 0 <= third <= n else (NO_NUMBER, third))


# For each function its parameters, and what it raises first for wrong arguments, if anything.
FUNCTIONS = {
    tables.is_table: ("thing", lambda thing: None),
    tables.one: ("p n", wrong_made),
    tables.zero: ("p n", wrong_made),
    tables.product: ("one other", wrong_fellows),
    tables.added: ("one other", wrong_fellows),
    tables.taken: ("one other", wrong_fellows),
    tables.times: ("table number", wrong_times),
    tables.power: ("table k", wrong_power),
    tables.undone: ("table", wrong_table),
    tables.rank: ("table", wrong_table),
    tables.determinant: ("table", wrong_table),
    tables.diagonal_sum: ("table", wrong_table),
    tables.mirror: ("table", wrong_table),
    tables.led: ("table row", wrong_led),
    tables.turned: ("table by", wrong_turned),
    tables.text_of: ("table", wrong_table),
    polys.is_poly: ("p thing", lambda p, thing: wrong_prime(p)),
    polys.is_prime_poly: ("p thing", lambda p, thing: wrong_prime(p)),
    polys.poly_product: ("p one other", lambda p, one, other: (
        wrong_prime(p) or wrong_poly_of(p, one) or wrong_poly_of(p, other))),
    polys.poly_factors: ("p poly", wrong_factors),
    polys.at_table: ("poly table", lambda poly, table: wrong_table(table) or wrong_poly_of(table[0], poly)),
    polys.whole_poly: ("table", wrong_table),
    polys.least_poly: ("table", wrong_table),
    parts.parts_of: ("table", wrong_table),
    parts.companion: ("p poly", wrong_companion),
    parts.plain_form: ("table", wrong_table),
    parts.plain_base: ("table", wrong_table),
    parts.are_alike: ("one other", wrong_fellows),
    parts.judge_alike: ("one other", wrong_fellows),
    parts.alike_holds: ("one other thing", lambda one, other, thing: wrong_fellows(one, other)),
    goings.does_go_with: ("one other", wrong_fellows),
    goings.room_of: ("table", wrong_table),
    goings.base_of_room: ("table", wrong_table),
    goings.many_alike: ("table", wrong_table),
    goings.judge_poly: ("table other", wrong_fellows),
    goings.poly_holds: ("table other thing", lambda table, other, thing: wrong_fellows(table, other)),
    folds.is_fold: ("table", wrong_table),
    folds.lost_by: ("table", wrong_table),
    folds.moved_by: ("table", wrong_table),
    folds.lost_rows: ("table", wrong_table),
    folds.still_rows: ("table", wrong_table),
    folds.fold_with: ("p stay lost", wrong_fold),
    folds.fewest_folds: ("table", wrong_table),
    folds.judge_folds: ("table k", wrong_many),
    folds.folds_hold: ("table k thing", lambda table, k, thing: wrong_many(table, k)),
    flips.is_flip: ("table", wrong_table),
    flips.turning_flip: ("table", wrong_table),
    flips.judge_two: ("table", wrong_table),
    flips.two_hold: ("table thing", lambda table, thing: wrong_table(table)),
    flips.judge_four: ("table", wrong_table),
    flips.four_hold: ("table thing", lambda table, thing: wrong_table(table)),
    exchanges.exchange: ("one other", wrong_fellows),
    exchanges.judge_exchange: ("table", wrong_table),
    exchanges.exchange_holds: ("table thing", lambda table, thing: wrong_table(table)),
    told.is_number: ("table", wrong_table),
    told.judge_diagonal: ("table numbers", wrong_diagonal),
    told.diagonal_holds: ("table numbers thing", lambda table, numbers, thing: wrong_diagonal(table, numbers)),
    told.judge_factors: ("table first second", wrong_factors_of),
    told.factors_hold: ("table first second thing", lambda table, first, second, thing: (
        wrong_factors_of(table, first, second))),
    told.judge_sum: ("table first second", wrong_sum),
    told.sum_holds: ("table first second thing", lambda table, first, second, thing: (
        wrong_sum(table, first, second))),
    fallers.is_faller: ("table", wrong_table),
    fallers.judge_fallers: ("table", wrong_table),
    fallers.fallers_hold: ("table thing", lambda table, thing: wrong_table(table)),
    fallers.judge_at_once: ("table", wrong_at_once),
    fallers.at_once_holds: ("table thing", lambda table, thing: wrong_at_once(table)),
    shears.is_shear: ("table", wrong_table),
    shears.is_fold_beside_one: ("table", wrong_table),
    shears.fewest_shears: ("table", wrong_table),
    shears.judge_shears: ("table", wrong_table),
    shears.shears_hold: ("table thing", lambda table, thing: wrong_table(table)),
    squares.is_square: ("table", wrong_table),
    squares.judge_square: ("table", wrong_table),
    squares.square_holds: ("table thing", lambda table, thing: wrong_table(table)),
    squares.odd_order: ("table", wrong_table),
    symmetric.is_symmetric: ("table", wrong_table),
    symmetric.symmetric_factors: ("table", wrong_table),
    symmetric.symmetric_hold: ("table thing", lambda table, thing: wrong_table(table)),
    symmetric.mirror_turning: ("table", wrong_table),
    counts.count_of: ("word p n", wrong_count),
    counts.count_rank: ("p n r", wrong_third),
    counts.count_free: ("p n k", wrong_third),
}
# What the interface lists, beside the files of the first stage.
LISTED = {
    "fewfolds.polys": set("is_poly is_prime_poly poly_product poly_factors at_table whole_poly least_poly".split()),
    "fewfolds.parts": set("parts_of companion plain_form plain_base are_alike judge_alike alike_holds".split()),
    "fewfolds.goings": set("does_go_with room_of base_of_room many_alike judge_poly poly_holds".split()),
    "fewfolds.folds": set("""is_fold lost_by moved_by lost_rows still_rows fold_with fewest_folds judge_folds
        folds_hold""".split()),
    "fewfolds.flips": set("is_flip turning_flip judge_two two_hold judge_four four_hold".split()),
    "fewfolds.exchanges": set("exchange judge_exchange exchange_holds".split()),
    "fewfolds.told": set("""is_number judge_diagonal diagonal_holds judge_factors factors_hold judge_sum
        sum_holds""".split()),
    "fewfolds.fallers": set("is_faller judge_fallers fallers_hold judge_at_once at_once_holds".split()),
    "fewfolds.shears": set("is_shear is_fold_beside_one fewest_shears judge_shears shears_hold".split()),
    "fewfolds.squares": set("is_square judge_square square_holds odd_order".split()),
    "fewfolds.symmetric": set("is_symmetric symmetric_factors symmetric_hold mirror_turning".split()),
    "fewfolds.counts": set("count_of count_rank count_free".split()),
}

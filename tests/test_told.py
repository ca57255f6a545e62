"""[7.1] to [7.4] and the interface of fewfolds/told.py."""

import itertools
import random

from fewfolds.errors import BadNumbers, BadTable, Lost
from fewfolds.told import diagonal_holds, factors_hold, is_number, judge_diagonal, judge_factors, judge_sum, sum_holds
from kinds import SMALL_SIZES, all_tables, diagonal_table, free_table, kinds, lead, low_table, lost_of
from kinds import plain_determinant_of, tables_of_all_kinds, triangle, turned_blocks, turned_by, undoing_of
from support import HUGE, ODD_VALUES, PRIMES, plain_one, plain_product, plain_zero, random_row, random_table
from words import PointCase, diagonal_of, is_times_one, many_times, plus, poly_of, says_diagonal, says_factors, says_sum
from words import sum_of, whole_of, worth_of

A = (5, ((1, 2), (3, 4)))
DIAGONAL = (diagonal_holds, says_diagonal)
FACTORS = (factors_hold, says_factors)
SUM = (sum_holds, says_sum)


def free_row(rng, p, n):
    """Numbers other than 0."""
    return tuple(rng.randrange(1, p) for _ in range(n))


def shuffled(rng, numbers):
    numbers = list(numbers)
    rng.shuffle(numbers)
    return tuple(numbers)


def row_to_sum(row, p, total):
    """Numbers with the last one replaced, so that they have this sum."""
    return row[:-1] + ((total - sum(row[:-1])) % p,)


def row_to_worth(row, p, worth):
    """Numbers other than 0 with the last one replaced, so that they have this product."""
    return row[:-1] + (worth * pow(worth_of(p, row[:-1]), -1, p) % p,)


def told_diagonals(rng, table):
    """Numbers of all kinds: equal ones, with the right sum and a wrong one, the diagonal in another order, zeros."""
    p, rows = table
    n = len(rows)
    total = sum_of(table)
    return [(rng.randrange(p),) * n, (rows[0][0],) * n, random_row(rng, p, n),
            row_to_sum(random_row(rng, p, n), p, total), row_to_sum(random_row(rng, p, n), p, total + 1),
            diagonal_of(table), shuffled(rng, diagonal_of(table)), (0,) * n, row_to_sum((0,) * n, p, total)]


def told_pairs(rng, table):
    """Pairs of numbers of all kinds: with the right sum, and a wrong one, and such as fit a number times 1."""
    p, rows = table
    n = len(rows)
    first, second = random_row(rng, p, n), random_row(rng, p, n)
    total, number = sum_of(table), rows[0][0]
    return [(first, second), (first, row_to_sum(second, p, total - sum(first))), ((0,) * n, (0,) * n),
            (first, row_to_sum(second, p, total - sum(first) + 1)), ((0,) * n, row_to_sum((0,) * n, p, total)),
            (first, shuffled(rng, ((number - x) % p for x in first))), (diagonal_of(table), (0,) * n),
            ((number,) * n, (0,) * n), (first, tuple((number - x) % p for x in second)),
            (row_to_sum((0,) * n, p, total), (0,) * n)]


def told_factors(rng, table):
    """Pairs of numbers other than 0: with the right product, and a wrong one, and such as fit a number times 1."""
    p, rows = table
    n = len(rows)
    first, second, ones = free_row(rng, p, n), free_row(rng, p, n), (1,) * n
    worth, number = plain_determinant_of(table), rows[0][0] or 1
    rest = worth * pow(worth_of(p, first), -1, p)
    fit = shuffled(rng, (number * pow(x, -1, p) % p for x in first))
    return [(first, second), (first, row_to_worth(second, p, rest)), (ones, row_to_worth(ones, p, worth)),
            (row_to_worth(ones, p, worth), ones), (first, fit), (first, row_to_worth(second, p, 2 * rest % p or 1)),
            ((number,) * n, ones), (first, tuple(number * x % p for x in second)), ((p - 1,) * n, ones)]


class Number(PointCase):
    def test_all_kinds(self):
        for table in tables_of_all_kinds(221):
            self.assertIs(is_number(table), is_times_one(table))

    def test_numbers_and_near_ones(self):
        for p in PRIMES:
            for n in range(1, 9):
                for number in range(p):
                    table = diagonal_table(p, (number,) * n)
                    self.assertIs(is_number(table), True)
                    if n > 1:
                        rows = table[1]
                        self.assertIs(is_number((p, rows[:-1] + ((1,) + rows[-1][1:],))), False)
                        self.assertIs(is_number((p, (rows[0][:-1] + (p - 1,),) + rows[1:])), False)
                        self.assertIs(is_number(diagonal_table(p, (number,) * (n - 1) + (number + 1,))), False)

    def test_wrong_tables(self):
        for value in ODD_VALUES:
            with self.assertRaises(BadTable) as caught:
                is_number(value)
            self.assertIs(caught.exception.thing, value)


class Diagonals(PointCase):
    def judge(self, table, numbers):
        found = self.told(judge_diagonal, *DIAGONAL, table, numbers)
        fits = sum(numbers) % table[0] == sum_of(table)
        fits = fits and (not is_times_one(table) or numbers == diagonal_of(table))
        self.assertEqual(found[0] == "turned", fits)
        return found[0]

    def test_all_kinds(self):
        rng = random.Random(222)
        found = {(table[0], self.judge(table, numbers)) for table in tables_of_all_kinds(223)
                 for numbers in told_diagonals(rng, table)}
        self.assertEqual(found, {(p, word) for p in PRIMES for word in ("turned", "sum", "number")})

    def test_numbers_times_1(self):
        rng = random.Random(224)
        for p in PRIMES:
            for n in range(1, 9):
                for number in range(p):
                    table = diagonal_table(p, (number,) * n)
                    for numbers in told_diagonals(rng, table):
                        self.judge(table, numbers)

    def test_nearly_numbers_times_1(self):
        # Behind each corner there may be a number times 1 again.
        rng = random.Random(225)
        for p in PRIMES:
            for n in range(2, 9):
                for number in (0, 1, p - 1):
                    rows = diagonal_table(p, (number,) * n)[1]
                    for table in ((p, rows[:-1] + ((1,) + rows[-1][1:],)),
                                  diagonal_table(p, (number,) * (n - 1) + (number + 1,)),
                                  diagonal_table(p, (number + 1,) + (number,) * (n - 1)),
                                  (p, ((number,) + (0,) * (n - 2) + (1,),) + rows[1:])):
                        for numbers in told_diagonals(rng, table):
                            self.judge(table, numbers)
                            self.judge(turned_by(table, free_table(rng, p, n)), numbers)

    def test_small_ones_gone_through(self):
        for p, n in SMALL_SIZES:
            free = [table for table in all_tables(p, n) if undoing_of(table) is not None]
            reached = {}
            for table in all_tables(p, n):
                if table not in reached:
                    alike = {turned_by(table, by) for by in free}
                    reached.update({told: {diagonal_of(one) for one in alike} for told in alike})
            for table in all_tables(p, n):
                for numbers in itertools.product(range(p), repeat=n):
                    self.assertEqual(self.judge(table, numbers) == "turned", numbers in reached[table])

    def test_other_turnings(self):
        rng = random.Random(226)
        for table in tables_of_all_kinds(227)[::2]:
            p, rows = table
            by = free_table(rng, p, len(rows))
            numbers = diagonal_of(turned_by(table, by))
            for number in range(1, p):
                self.assertIs(diagonal_holds(table, numbers, ("turned", many_times(by, number))), True)
            for told in (low_table(rng, p, len(rows), len(rows) - 1), plain_one(p, len(rows)), undoing_of(by),
                         plain_zero(p, len(rows)), free_table(rng, p, len(rows))):
                self.compare(*DIAGONAL, table, numbers, ("turned", told))
            told = (p, rows + rows[:1])
            self.assertIs(diagonal_holds(table, numbers, ("turned", told)), False)
            self.compare(*DIAGONAL, table, shuffled(rng, numbers), ("turned", by))

    def test_two_bars_at_once(self):
        two, bars = (5, ((2, 0), (0, 2))), (("sum", 4), ("number", 2))
        for bar in bars:
            self.assertIs(diagonal_holds(two, (1, 1), bar), True)
        self.assertIs(diagonal_holds(two, (1, 3), bars[0]), False)
        self.assertIs(diagonal_holds(two, (1, 3), bars[1]), True)
        for bar in bars:
            self.assertIs(diagonal_holds(two, (2, 2), bar), False)

    def test_bars_with_each_number(self):
        rng = random.Random(228)
        for p in PRIMES:
            for n in range(1, 9):
                for table in (random_table(rng, p, n), diagonal_table(p, (1,) * n), plain_zero(p, n)):
                    for numbers in told_diagonals(rng, table):
                        for number in list(range(-1, p + 2)) + [True, False, None, "1", (1,), HUGE]:
                            self.compare(*DIAGONAL, table, numbers, ("sum", number))
                            self.compare(*DIAGONAL, table, numbers, ("number", number))

    def test_wrong_at_one_place(self):
        rng = random.Random(229)
        for p in PRIMES:
            for n in (1, 2, 3):
                for table in (random_table(rng, p, n), turned_blocks(rng, p, n), diagonal_table(p, (1,) * n)):
                    for numbers in told_diagonals(rng, table)[2:5]:
                        self.compare_wrong_at_one_place(*DIAGONAL, judge_diagonal(table, numbers), table, numbers)

    def test_any_values(self):
        rng = random.Random(230)
        for table in tables_of_all_kinds(231)[::3]:
            for numbers in told_diagonals(rng, table)[3:5]:
                thing = judge_diagonal(table, numbers)
                self.compare_any_values(rng, *DIAGONAL, thing, table, numbers)
                self.compare_other_tables(*DIAGONAL, thing, table, numbers)
        words = (("turned", 2), ("sum", 2), ("number", 2))
        for table, numbers in ((A, (0, 0)), (A, (1, 0)), ((5, ((1, 0), (0, 1))), (3, 4)), ((2, ((1,),)), (0,))):
            self.compare_odd_values(*DIAGONAL, words, table, numbers)


class Factors(PointCase):
    def judge(self, table, first, second):
        found = self.told(judge_factors, *FACTORS, table, first, second)
        p, rows = table
        fits = plain_determinant_of(table) == worth_of(p, first + second)
        if is_times_one(table):
            fits = fits and sorted(rows[0][0] * pow(x, -1, p) % p for x in first) == sorted(second)
        self.assertEqual(found[0] == "factors", fits)
        return found[0]

    def test_all_kinds(self):
        rng = random.Random(232)
        found = {(table[0], self.judge(table, *pair)) for table in tables_of_all_kinds(233) if lost_of(table) == 0
                 for pair in told_factors(rng, table)}
        # By 2 each determinant, and each number other than 0, is 1.
        self.assertEqual(found, {(p, word) for p in (3, 5, 7) for word in ("factors", "determinant", "number")}
                         | {(2, "factors")})

    def test_numbers_times_1(self):
        rng = random.Random(234)
        for p in PRIMES:
            for n in range(1, 9):
                for number in range(1, p):
                    table = diagonal_table(p, (number,) * n)
                    for pair in told_factors(rng, table) + told_factors(rng, table):
                        self.judge(table, *pair)

    def test_small_ones_gone_through(self):
        for p, n in SMALL_SIZES:
            free = [table for table in all_tables(p, n) if undoing_of(table) is not None]
            whole = {table: whole_of(table) for table in free}
            told = list(itertools.product(range(1, p), repeat=n))
            reached = {(whole[one], whole[other], plain_product(one, other)) for one in free for other in free}
            for table in free:
                for first in told:
                    for second in told:
                        found = self.judge(table, first, second)
                        wanted = (poly_of(p, first), poly_of(p, second), table) in reached
                        self.assertEqual(found == "factors", wanted)

    def test_other_factors(self):
        rng = random.Random(235)
        for p in PRIMES:
            for n in range(1, 9):
                first, second = free_row(rng, p, n), free_row(rng, p, n)
                one = turned_by(triangle(rng, p, n, shuffled(rng, first)), free_table(rng, p, n))
                other = turned_by(triangle(rng, p, n, shuffled(rng, second)), free_table(rng, p, n))
                table = plain_product(one, other)
                self.assertIs(factors_hold(table, first, second, ("factors", one, other)), True)
                self.assertIs(factors_hold(table, shuffled(rng, first), second, ("factors", one, other)), True)
                for told in ((other, one), (one, one), (plain_one(p, n), table), (table, plain_one(p, n))):
                    self.compare(*FACTORS, table, first, second, ("factors",) + told)
                for numbers in (free_row(rng, p, n), second):
                    self.compare(*FACTORS, table, numbers, first, ("factors", one, other))
                    self.compare(*FACTORS, table, first, numbers, ("factors", one, other))
                    self.compare(*FACTORS, plain_product(other, one), first, numbers, ("factors", one, other))

    def test_two_bars_at_once(self):
        two, bars = (5, ((2, 0), (0, 2))), (("determinant", 4), ("number", 2))
        for bar in bars:
            self.assertIs(factors_hold(two, (1, 1), (1, 1), bar), True)
            self.assertIs(factors_hold(two, (1, 3), (2, 4), bar), False)
        self.assertIs(factors_hold(two, (1, 1), (1, 4), bars[0]), False)
        self.assertIs(factors_hold(two, (1, 1), (1, 4), bars[1]), True)

    def test_bars_with_each_number(self):
        rng = random.Random(236)
        for p in PRIMES:
            for n in range(1, 9):
                for table in (free_table(rng, p, n), diagonal_table(p, (p - 1,) * n), plain_one(p, n)):
                    for first, second in told_factors(rng, table):
                        for number in list(range(-1, p + 2)) + [True, False, None, "1", (1,), HUGE]:
                            self.compare(*FACTORS, table, first, second, ("determinant", number))
                            self.compare(*FACTORS, table, first, second, ("number", number))

    def test_wrong_at_one_place(self):
        rng = random.Random(237)
        for p in PRIMES:
            for n in (1, 2, 3):
                for table in (free_table(rng, p, n), diagonal_table(p, (p - 1,) * n)):
                    for pair in told_factors(rng, table)[1:6:2]:
                        self.compare_wrong_at_one_place(*FACTORS, judge_factors(table, *pair), table, *pair)

    def test_any_values(self):
        rng = random.Random(238)
        for table in tables_of_all_kinds(239)[::2]:
            for pair in told_factors(rng, table)[1:6:2] if lost_of(table) == 0 else []:
                thing = judge_factors(table, *pair)
                self.compare_any_values(rng, *FACTORS, thing, table, *pair)
                self.compare_other_tables(*FACTORS, thing, table, *pair)
        words = (("factors", 3), ("determinant", 2), ("number", 2))
        for args in ((A, (1, 1), (1, 3)), (A, (1, 1), (1, 1)), ((5, ((2, 0), (0, 2))), (1, 1), (1, 4))):
            self.compare_odd_values(*FACTORS, words, *args)


class Sums(PointCase):
    def judge(self, table, first, second):
        found = self.told(judge_sum, *SUM, table, first, second)
        p, rows = table
        fits = sum(first + second) % p == sum_of(table)
        if is_times_one(table):
            fits = fits and sorted((rows[0][0] - x) % p for x in first) == sorted(second)
        self.assertEqual(found[0] == "parts", fits)
        return found[0]

    def test_all_kinds(self):
        rng = random.Random(240)
        found = {(table[0], self.judge(table, *pair)) for table in tables_of_all_kinds(241)
                 for pair in told_pairs(rng, table)}
        self.assertEqual(found, {(p, word) for p in PRIMES for word in ("parts", "sum", "number")})

    def test_numbers_times_1(self):
        rng = random.Random(242)
        for p in PRIMES:
            for n in range(1, 9):
                for number in range(p):
                    table = diagonal_table(p, (number,) * n)
                    for pair in told_pairs(rng, table):
                        self.judge(table, *pair)

    def test_small_ones_gone_through(self):
        for p, n in SMALL_SIZES:
            tables = all_tables(p, n)
            whole = {}
            for table in tables:
                whole.setdefault(whole_of(table), []).append(table)
            rows = sorted({tuple(sorted(row)) for row in itertools.product(range(p), repeat=n)})
            for first, second in itertools.product(rows, repeat=2):
                reached = {plus(one, other) for one in whole[poly_of(p, first)] for other in whole[poly_of(p, second)]}
                for table in tables:
                    self.assertEqual(self.judge(table, first, second) == "parts", table in reached)

    def test_other_parts(self):
        rng = random.Random(243)
        for p in PRIMES:
            for n in range(1, 9):
                first, second = random_row(rng, p, n), random_row(rng, p, n)
                one = turned_by(triangle(rng, p, n, shuffled(rng, first)), free_table(rng, p, n))
                other = turned_by(triangle(rng, p, n, shuffled(rng, second)), free_table(rng, p, n))
                table = plus(one, other)
                self.assertIs(sum_holds(table, first, second, ("parts", one, other)), True)
                self.assertIs(sum_holds(table, second, shuffled(rng, first), ("parts", other, one)), True)
                for told in ((other, one), (one, one), (plain_zero(p, n), table), (table, plain_zero(p, n))):
                    self.compare(*SUM, table, first, second, ("parts",) + told)
                for numbers in (random_row(rng, p, n), second):
                    self.compare(*SUM, table, numbers, first, ("parts", one, other))
                    self.compare(*SUM, table, first, numbers, ("parts", one, other))
                    self.compare(*SUM, plain_product(one, other), first, numbers, ("parts", one, other))

    def test_two_bars_at_once(self):
        two, bars = (5, ((2, 0), (0, 2))), (("sum", 4), ("number", 2))
        for bar in bars:
            self.assertIs(sum_holds(two, (1, 1), (1, 0), bar), True)
            self.assertIs(sum_holds(two, (1, 3), (4, 1), bar), False)
        self.assertIs(sum_holds(two, (1, 1), (0, 2), bars[0]), False)
        self.assertIs(sum_holds(two, (1, 1), (0, 2), bars[1]), True)

    def test_bars_with_each_number(self):
        rng = random.Random(244)
        for p in PRIMES:
            for n in range(1, 9):
                for table in (random_table(rng, p, n), diagonal_table(p, (1,) * n), plain_zero(p, n)):
                    for first, second in told_pairs(rng, table):
                        for number in list(range(-1, p + 2)) + [True, False, None, "1", (1,), HUGE]:
                            self.compare(*SUM, table, first, second, ("sum", number))
                            self.compare(*SUM, table, first, second, ("number", number))

    def test_wrong_at_one_place(self):
        rng = random.Random(245)
        for p in PRIMES:
            for n in (1, 2, 3):
                for table in (random_table(rng, p, n), diagonal_table(p, (p - 1,) * n)):
                    for pair in told_pairs(rng, table)[1:6:2]:
                        self.compare_wrong_at_one_place(*SUM, judge_sum(table, *pair), table, *pair)

    def test_any_values(self):
        rng = random.Random(246)
        for table in tables_of_all_kinds(247)[::3]:
            for pair in told_pairs(rng, table)[1:6:2]:
                thing = judge_sum(table, *pair)
                self.compare_any_values(rng, *SUM, thing, table, *pair)
                self.compare_other_tables(*SUM, thing, table, *pair)
        words = (("parts", 3), ("sum", 2), ("number", 2))
        for args in ((A, (0, 0), (0, 0)), (A, (0, 0), (0, 1)), ((5, ((2, 0), (0, 2))), (1, 1), (2, 0))):
            self.compare_odd_values(*SUM, words, *args)


class Errors(PointCase):
    def raised(self, call, error, wrong, *args):
        with self.assertRaises(error) as caught:
            call(*args)
        self.assertEqual(repr(caught.exception.thing), repr(wrong))

    def test_order_with_one_tuple(self):
        for call in (judge_diagonal, lambda table, numbers: diagonal_holds(table, numbers, None)):
            for table, numbers, error, wrong in (
                    (None, None, BadTable, None), ([5], (0, 0), BadTable, [5]), (A, None, BadNumbers, None),
                    (A, [0, 0], BadNumbers, [0, 0]), (A, (0,), BadNumbers, (0,)), (A, (0, 0, 0), BadNumbers, (0, 0, 0)),
                    (A, (0, 5), BadNumbers, (0, 5)), (A, (-1, 1), BadNumbers, (-1, 1)), (A, (), BadNumbers, ()),
                    (A, (True, 0), BadNumbers, (True, 0)), (A, ("0", 0), BadNumbers, ("0", 0))):
                self.raised(call, error, wrong, table, numbers)

    def test_order_with_two_tuples(self):
        lost = (5, ((1, 2), (2, 4)))
        for call in (judge_sum, judge_factors, lambda *args: sum_holds(*args, None),
                     lambda *args: factors_hold(*args, None)):
            for table, first, second, error, wrong in (
                    (None, None, None, BadTable, None), (5, (1, 1), (1, 1), BadTable, 5),
                    (A, None, 7, BadNumbers, None), (A, (1, 1), 7, BadNumbers, 7), (A, [1], (1,), BadNumbers, [1]),
                    (A, (1, 5), (5, 1), BadNumbers, (1, 5)), (lost, (1, True), (1, 1), BadNumbers, (1, True)),
                    (A, (1, 4), (4, False), BadNumbers, (4, False)), (lost, (4, 4), (1, 1, 1), BadNumbers, (1, 1, 1))):
                self.raised(call, error, wrong, table, first, second)

    def test_zeros(self):
        for call in (judge_factors, lambda *args: factors_hold(*args, None)):
            for first, second, wrong in (((0, 1), (1, 1), (0, 1)), ((1, 1), (1, 0), (1, 0)), ((0, 0), (0, 1), (0, 0))):
                self.raised(call, BadNumbers, wrong, A, first, second)
                self.raised(call, BadNumbers, wrong, plain_zero(5, 2), first, second)
        self.assertEqual(judge_sum(A, (0, 1), (0, 4))[0], "parts")
        self.assertEqual(judge_diagonal(A, (0, 0))[0], "turned")

    def test_lost(self):
        rng = random.Random(248)
        for table in tables_of_all_kinds(249):
            p, rows = table
            if lost_of(table) == 0:
                continue
            first, second = free_row(rng, p, len(rows)), free_row(rng, p, len(rows))
            for call in (judge_factors, lambda *args: factors_hold(*args, ("determinant", 0))):
                with self.assertRaises(Lost) as caught:
                    call(table, first, second)
                row = caught.exception.row
                self.assertEqual([type(row), len(row), any(row), any(lead(row, table))],
                                 [tuple, len(rows), True, False])
            self.assertEqual(judge_sum(table, first, second)[0] == "parts",
                             sum(first + second) % p == sum_of(table) and not is_times_one(table) or (
                                 is_times_one(table) and sorted(-x % p for x in first) == sorted(second)))

    def test_kinds_of_tables(self):
        # A sum may be told of each table, factors of those alone that can be undone.
        rng = random.Random(250)
        for p in PRIMES:
            for n in range(1, 9):
                for table in kinds(rng, p, n):
                    ones = (1,) * n
                    if lost_of(table) == 0:
                        self.assertIn(judge_factors(table, ones, ones)[0], ("factors", "determinant", "number"))
                    else:
                        with self.assertRaises(Lost):
                            judge_factors(table, ones, ones)

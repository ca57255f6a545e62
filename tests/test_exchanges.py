"""[6.1] and the interface of fewfolds/exchanges.py."""

import itertools
import random

from fewfolds.errors import BadTable, OtherTable
from fewfolds.exchanges import exchange, exchange_holds, judge_exchange
from kinds import SMALL_SIZES, all_tables, classes, diagonal_table, free_table, kinds, low_table, table_of_class
from kinds import tables_of_all_kinds, triangle, turned_blocks, turned_by
from support import HUGE, ODD_VALUES, PRIMES, plain_at_table, plain_one, plain_product, plain_zero, random_poly
from support import random_row, random_table
from words import PointCase, exchanged, opposite, plus, says_exchange, sum_of

A = (5, ((1, 2), (3, 4)))
POINT = (exchange_holds, says_exchange)


def with_sum(table, total):
    """A table with the last number of the diagonal replaced, so that the diagonal has this sum."""
    p, rows = table
    last = (rows[-1][-1] + total - sum_of(table)) % p
    return p, rows[:-1] + (rows[-1][:-1] + (last,),)


def unit_tables(p, n):
    """The tables with one 1."""
    return [(p, tuple(tuple(int((i, k) == at) for k in range(n)) for i in range(n)))
            for at in itertools.product(range(n), repeat=2)]


def spanned(p, n, tables):
    """All sums of multiples of tables."""
    found = {plain_zero(p, n)}
    for table in tables:
        if table not in found:
            steps = [plain_zero(p, n)]
            for _ in range(p - 1):
                steps.append(plus(steps[-1], table))
            found = {plus(one, step) for one in found for step in steps}
    return found


class Exchange(PointCase):
    def test_against_products(self):
        rng = random.Random(201)
        for table in tables_of_all_kinds(202):
            p, rows = table
            for other in (random_table(rng, p, len(rows)), turned_blocks(rng, p, len(rows)), table):
                self.assertEqual(exchange(table, other), exchanged(table, other))

    def test_what_goes_with_it(self):
        rng = random.Random(203)
        for table in tables_of_all_kinds(204)[::3]:
            p, rows = table
            other = plain_at_table(random_poly(rng, p, 4), table)
            self.assertEqual(exchange(table, other), plain_zero(p, len(rows)))

    def test_errors_in_their_order(self):
        other = (5, ((1,),))
        for first, second, error, wrong in (
                (None, None, BadTable, None), (A, [1], BadTable, [1]), ([5], (5, ((5,),)), BadTable, [5]),
                (A, other, OtherTable, other), (other, A, OtherTable, A), ((7, A[1]), A, OtherTable, A)):
            with self.assertRaises(error) as caught:
                exchange(first, second)
            self.assertEqual(caught.exception.thing, wrong)


class Judged(PointCase):
    def judge(self, table):
        found = self.told(judge_exchange, *POINT, table)
        self.assertEqual(found[0], "sum" if sum_of(table) else "exchange")
        return found[0]

    def test_all_kinds(self):
        found = {(p, self.judge(table)) for table in tables_of_all_kinds(205, 2) for p in table[:1]}
        self.assertEqual(found, {(p, word) for p in PRIMES for word in ("sum", "exchange")})

    def test_each_sum(self):
        rng = random.Random(206)
        for p in PRIMES:
            for n in range(1, 9):
                for total in range(p):
                    for table in (random_table(rng, p, n), low_table(rng, p, n, 1), turned_blocks(rng, p, n),
                                  triangle(rng, p, n, random_row(rng, p, n))):
                        self.judge(with_sum(table, total))

    def test_sum_0_of_all_kinds(self):
        rng = random.Random(207)
        for p in PRIMES:
            for n in range(1, 9):
                for table in kinds(rng, p, n):
                    table = with_sum(table, 0)
                    self.assertEqual(self.judge(table), "exchange")
                    self.assertEqual(self.judge(turned_by(table, free_table(rng, p, n))), "exchange")

    def test_numbers_times_1(self):
        for p in PRIMES:
            for n in range(1, 9):
                for number in range(p):
                    word = "exchange" if n * number % p == 0 else "sum"
                    self.assertEqual(self.judge(diagonal_table(p, (number,) * n)), word)

    def test_one_of_each_class(self):
        # Each table is alike to one of these; an exchange turned is one, too.
        for p, most in ((2, 6), (3, 4), (5, 3), (7, 2)):
            for n in range(1, most + 1):
                for told in classes(p, n):
                    self.judge(table_of_class(p, told))

    def test_one_block_by_2_of_each_size(self):
        # An odd number of links, all of them 1, which have no sum 0: of a size of 4, 6 and 8 with a prime polynomial.
        for poly in ((1, 1, 0, 0, 1), (1, 1, 0, 0, 0, 0, 1), (1, 1, 0, 1, 1, 0, 0, 0, 1)):
            table = table_of_class(2, {poly: (1,)})
            self.assertEqual(self.judge(table), "exchange")
            self.assertEqual(self.judge(turned_by(table, free_table(random.Random(208), 2, len(table[1])))), "exchange")

    def test_small_ones_gone_through(self):
        for p, n in SMALL_SIZES:
            reached = set()
            for one in all_tables(p, n):
                reached |= spanned(p, n, [exchanged(one, other) for other in unit_tables(p, n)])
            for table in all_tables(p, n):
                self.assertEqual(self.judge(table), "exchange" if table in reached else "sum")


class Certificates(PointCase):
    def test_other_exchanges(self):
        rng = random.Random(209)
        for p in PRIMES:
            for n in range(1, 9):
                one, other = random_table(rng, p, n), random_table(rng, p, n)
                table = exchanged(one, other)
                along = plus(other, plain_at_table(random_poly(rng, p, 3), one))
                minus = opposite(one)
                for first, second in ((one, other), (one, along), (other, minus), (opposite(other), one)):
                    self.assertIs(exchange_holds(table, ("exchange", first, second)), True)
                for first, second in ((other, one), (one, one), (one, table), (table, other), (minus, other)):
                    self.compare(*POINT, table, ("exchange", first, second))
                _, first, second = judge_exchange(table)
                by = free_table(rng, p, n)
                told = ("exchange", turned_by(first, by), turned_by(second, by))
                self.assertIs(exchange_holds(turned_by(table, by), told), True)

    def test_products_are_no_exchanges(self):
        rng = random.Random(210)
        for p in PRIMES:
            for n in range(1, 9):
                one, other = random_table(rng, p, n), random_table(rng, p, n)
                self.compare(*POINT, plain_product(one, other), ("exchange", one, other))
                twice = plus(plain_product(one, other), plain_product(other, one))
                self.compare(*POINT, twice, ("exchange", one, other))

    def test_sums(self):
        rng = random.Random(211)
        for p in PRIMES:
            for n in range(1, 9):
                for table in (random_table(rng, p, n), with_sum(random_table(rng, p, n), 0), plain_one(p, n)):
                    total = sum_of(table)
                    for number in list(range(-1, p + 2)) + [True, False, None, str(total), (total,), HUGE, total + p]:
                        wanted = type(number) is int and number == total != 0
                        self.assertIs(exchange_holds(table, ("sum", number)), wanted)

    def test_wrong_at_one_place(self):
        rng = random.Random(212)
        for p in PRIMES:
            for n in (1, 2, 3):
                for table in (with_sum(random_table(rng, p, n), 0), with_sum(random_table(rng, p, n), 1)):
                    self.compare_wrong_at_one_place(*POINT, judge_exchange(table), table)

    def test_any_values(self):
        rng = random.Random(213)
        for table in tables_of_all_kinds(214)[::3]:
            for told in (table, with_sum(table, 0)):
                thing = judge_exchange(told)
                self.compare_any_values(rng, *POINT, thing, told)
                self.compare_other_tables(*POINT, thing, told)
        for table in (A, (3, ((1, 1), (1, 1)))):
            self.compare_odd_values(*POINT, (("exchange", 3), ("sum", 2)), table)

    def test_wrong_tables(self):
        for value in ODD_VALUES:
            for call in (judge_exchange, lambda table: exchange_holds(table, ("sum", 1))):
                with self.assertRaises(BadTable) as caught:
                    call(value)
                self.assertIs(caught.exception.thing, value)

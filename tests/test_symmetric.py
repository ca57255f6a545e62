"""[11.1] and the interface of fewfolds/symmetric.py."""

import random

from fewfolds.errors import BadTable
from fewfolds.symmetric import is_symmetric, mirror_turning, symmetric_factors, symmetric_hold
from kinds import SMALL_SIZES, all_tables, diagonal_table, free_table, lost_of, table_of_class, classes
from kinds import tables_of_all_kinds, turned_by, undoing_of
from product_words import free_symmetric, mirror_of, random_symmetric, says_symmetric
from support import ODD_VALUES, PRIMES, plain_one, plain_product, plain_zero, random_table
from words import PointCase

A = (5, ((1, 2), (3, 4)))
POINT = (symmetric_hold, says_symmetric)


def no_certificate(rng, thing, table):
    """Pairs of fellows that are near to a certificate."""
    _, first, second = thing
    p, rows = table
    one = plain_one(p, len(rows))
    return [(second, first), (one, table), (table, one), (first, first), (first, table), (one, second),
            (undoing_of(first), second), (mirror_of(first), mirror_of(second)), (plain_zero(p, len(rows)), table),
            (random_symmetric(rng, p, len(rows)), second), (first, random_symmetric(rng, p, len(rows)))]


class Symmetric(PointCase):
    def test_all_kinds(self):
        rng = random.Random(341)
        for table in tables_of_all_kinds(342):
            p, rows = table
            self.assertIs(is_symmetric(table), table == mirror_of(table))
            told = random_symmetric(rng, p, len(rows))
            self.assertIs(is_symmetric(told), True)
            if len(rows) > 1:
                rows = told[1]
                self.assertIs(is_symmetric((p, ((rows[0][:-1] + ((rows[0][-1] + 1) % p,)),) + rows[1:])), False)

    def test_small_ones(self):
        for p, n in SMALL_SIZES:
            found = [table for table in all_tables(p, n) if is_symmetric(table)]
            self.assertEqual(len(found), p ** (n * (n + 1) // 2))
            self.assertTrue(all(table == mirror_of(table) for table in found))


class Judged(PointCase):
    def judge(self, table):
        found = self.told(symmetric_factors, *POINT, table)
        self.assertEqual(found[0], "symmetric")
        _, first, _ = found
        # The table turned by the undoing of the first one is its mirror.
        self.assertEqual(turned_by(table, undoing_of(first)), mirror_of(table))
        turning = mirror_turning(table)
        self.assertEqual(turning, mirror_of(turning))
        self.assertEqual(turned_by(table, turning), mirror_of(table))

    def test_all_kinds(self):
        for table in tables_of_all_kinds(343, 2):
            self.judge(table)

    def test_symmetric_ones(self):
        rng = random.Random(344)
        for p in PRIMES:
            for n in range(1, 9):
                for table in (random_symmetric(rng, p, n), free_symmetric(rng, p, n)):
                    self.judge(table)
                    self.assertIs(symmetric_hold(table, ("symmetric", plain_one(p, n), table)), True)
                    wanted = lost_of(table) == 0
                    self.assertIs(symmetric_hold(table, ("symmetric", table, plain_one(p, n))), wanted)

    def test_one_of_each_class(self):
        for p, most in ((2, 6), (3, 4), (5, 3), (7, 2)):
            for n in range(1, most + 1):
                for told in classes(p, n):
                    self.judge(table_of_class(p, told))

    def test_small_ones(self):
        for p, n in SMALL_SIZES:
            for table in all_tables(p, n):
                self.judge(table)

    def test_numbers_times_1(self):
        for p in PRIMES:
            for n in range(1, 9):
                for number in range(p):
                    self.judge(diagonal_table(p, (number,) * n))


class Certificates(PointCase):
    def test_other_factors(self):
        rng = random.Random(345)
        for p in PRIMES:
            for n in range(1, 9):
                for _ in range(3):
                    first, second = free_symmetric(rng, p, n), random_symmetric(rng, p, n)
                    table = plain_product(first, second)
                    self.assertIs(symmetric_hold(table, ("symmetric", first, second)), True)
                    for told in no_certificate(rng, ("symmetric", first, second), table):
                        self.compare(*POINT, table, ("symmetric",) + told)
                    # Numbers may go from the one to the other.
                    for number in range(1, p):
                        back = diagonal_table(p, (pow(number, -1, p),) * n)
                        told = (plain_product(first, diagonal_table(p, (number,) * n)), plain_product(back, second))
                        self.assertIs(symmetric_hold(table, ("symmetric",) + told), True)

    def test_the_first_one_can_be_undone(self):
        rng = random.Random(346)
        for p in PRIMES:
            for n in range(1, 9):
                zero = plain_zero(p, n)
                self.assertIs(symmetric_hold(zero, ("symmetric", zero, zero)), False)
                self.assertIs(symmetric_hold(zero, ("symmetric", zero, plain_one(p, n))), False)
                self.assertIs(symmetric_hold(zero, ("symmetric", plain_one(p, n), zero)), True)
                lost = diagonal_table(p, (1,) * (n - 1) + (0,))
                self.assertIs(symmetric_hold(lost, ("symmetric", lost, plain_one(p, n))), False)
                self.assertIs(symmetric_hold(lost, ("symmetric", lost, lost)), False)
                self.assertIs(symmetric_hold(lost, ("symmetric", plain_one(p, n), lost)), True)
                table = free_table(rng, p, n)
                for told in ((plain_one(p, n), table), (table, plain_one(p, n))):
                    self.assertIs(symmetric_hold(table, ("symmetric",) + told), table == mirror_of(table))

    def test_near_ones_of_all_kinds(self):
        rng = random.Random(347)
        for table in tables_of_all_kinds(348):
            thing = symmetric_factors(table)
            for told in no_certificate(rng, thing, table):
                self.compare(*POINT, table, ("symmetric",) + told)
            self.compare(*POINT, random_table(rng, table[0], len(table[1])), thing)

    def test_wrong_at_one_place(self):
        rng = random.Random(349)
        for p in PRIMES:
            for n in (1, 2, 3):
                for table in (random_table(rng, p, n), free_table(rng, p, n), plain_one(p, n), plain_zero(p, n)):
                    self.compare_wrong_at_one_place(*POINT, symmetric_factors(table), table)

    def test_any_values(self):
        rng = random.Random(350)
        for table in tables_of_all_kinds(351)[::2]:
            thing = symmetric_factors(table)
            self.compare_any_values(rng, *POINT, thing, table)
            self.compare_other_tables(*POINT, thing, table)
        for table in (A, plain_one(2, 2), plain_zero(3, 3)):
            self.compare_odd_values(*POINT, (("symmetric", 3),), table)

    def test_wrong_tables(self):
        for value in ODD_VALUES:
            for call in (is_symmetric, symmetric_factors, mirror_turning, lambda table: symmetric_hold(table, None)):
                with self.assertRaises(BadTable) as caught:
                    call(value)
                self.assertIs(caught.exception.thing, value)

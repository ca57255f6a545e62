"""[1.1] to [1.3] and the interface of fewfolds/tables.py, without the texts."""

import itertools
import random
import unittest

from fewfolds.errors import BadNumber, BadPrime, BadRow, BadTable, Lost, OtherTable
from fewfolds.tables import added, determinant, diagonal_sum, is_table, led, mirror, one, power, product, rank
from fewfolds.tables import taken, times, turned, undone, zero
from support import HUGE, ODD_VALUES, PRIMES, any_value, plain_determinant, plain_one, plain_product, plain_rank
from support import plain_zero, random_row, random_table, random_tables, says_table, spoiled, table_values

A = (5, ((1, 2), (3, 4)))
FLAT = (5, ((1, 2), (2, 4)))


def all_tables(p, n):
    """All tables of a size by p."""
    rows = list(itertools.product(range(p), repeat=n))
    return [(p, told) for told in itertools.product(rows, repeat=n)]


def lower_rank_table(rng, p, n, most):
    """A table of a rank of at most so many: a product through fewer rows."""
    left = [random_row(rng, p, most) for _ in range(n)]
    right = [random_row(rng, p, n) for _ in range(most)]
    return p, tuple(tuple(sum(x * y[k] for x, y in zip(row, right)) % p for k in range(n)) for row in left)


class Kinds(unittest.TestCase):
    def test_right_ones(self):
        for table in table_values() + list(random_tables(1)) + all_tables(2, 2) + all_tables(3, 1):
            self.assertIs(is_table(table), True)

    def test_odd_values(self):
        for value in ODD_VALUES:
            self.assertIs(is_table(value), False, value)

    def test_numbers_at_the_border(self):
        for p in PRIMES:
            for number in range(p):
                self.assertIs(is_table((p, ((number,),))), True)
            for number in (p, p + 1, -1, -p, HUGE, -HUGE, True, False, None, "0", (0,), [0], {}):
                self.assertIs(is_table((p, ((number,),))), False)
                self.assertIs(is_table((p, ((0, 1), (number, 0)))), False)

    def test_sizes_at_the_border(self):
        for p in PRIMES:
            for n in range(1, 9):
                self.assertIs(is_table((p, ((1,) * n,) * n)), True)
                self.assertIs(is_table((p, ((1,) * n,) * (n + 1))), False)
                self.assertIs(is_table((p, ((1,) * (n + 1),) * n)), False)
                self.assertIs(is_table((p, ((1,) * n,) * (n - 1) + ((1,) * (n - 1),))), False)
            for n in (0, 9, 10, 50):
                self.assertIs(is_table((p, ((1,) * n,) * n)), False)

    def test_other_primes(self):
        for p in (-7, -2, -1, 0, 1, 4, 6, 8, 9, 11, 13, HUGE, True, "2", None, (2,), [2], {2: 2}):
            self.assertIs(is_table((p, ((0,),))), False)

    def test_any_value(self):
        rng = random.Random(2)
        for _ in range(3000):
            table = random_table(rng, rng.choice(PRIMES), rng.randrange(1, 9))
            for value in (spoiled(rng, table), any_value(rng)):
                self.assertIs(is_table(value), says_table(value), value)


class OneAndZero(unittest.TestCase):
    def test_all(self):
        for p in PRIMES:
            for n in range(1, 9):
                self.assertEqual(repr(one(p, n)), repr(plain_one(p, n)))
                self.assertEqual(repr(zero(p, n)), repr(plain_zero(p, n)))

    def test_wrong_sizes(self):
        for make in (one, zero):
            for n in (0, 9, -1, True, False, HUGE, "1", None, (1,), [1], {}):
                with self.assertRaises(BadNumber) as caught:
                    make(2, n)
                self.assertIs(caught.exception.thing, n)

    def test_wrong_primes_first(self):
        for make in (one, zero):
            for p in (0, 1, 4, 6, 8, 11, True, HUGE, -3, "2", None, (2,), [2], {}):
                for n in (1, 9, True, None):
                    with self.assertRaises(BadPrime) as caught:
                        make(p, n)
                    self.assertIs(caught.exception.thing, p)


class Sums(unittest.TestCase):
    def pairs(self):
        rng = random.Random(3)
        for table in random_tables(4):
            yield table, random_table(rng, table[0], len(table[1]))

    def test_product(self):
        for first, second in self.pairs():
            self.assertEqual(product(first, second), plain_product(first, second))

    def test_product_leads_as_one_and_then_the_other(self):
        rng = random.Random(5)
        for first, second in self.pairs():
            row = random_row(rng, first[0], len(first[1]))
            self.assertEqual(led(product(first, second), row), led(second, led(first, row)))

    def test_added_and_taken(self):
        for first, second in self.pairs():
            p, rows = first
            self.assertEqual(added(first, second), (p, tuple(
                tuple((x + y) % p for x, y in zip(a, b)) for a, b in zip(rows, second[1]))))
            self.assertEqual(taken(first, second), (p, tuple(
                tuple((x - y) % p for x, y in zip(a, b)) for a, b in zip(rows, second[1]))))
            self.assertEqual(added(taken(first, second), second), first)
            self.assertEqual(taken(first, first), plain_zero(p, len(rows)))

    def test_times(self):
        for table in random_tables(6):
            p, rows = table
            for number in range(p):
                self.assertEqual(times(table, number), (p, tuple(tuple(number * x % p for x in row) for row in rows)))
            for number in (-1, p, p + 1, HUGE, True, False, None, "1", (1,), [1]):
                with self.assertRaises(BadNumber) as caught:
                    times(table, number)
                self.assertIs(caught.exception.thing, number)

    def test_unlike_primes_and_sizes(self):
        for call in (product, added, taken, turned):
            for other in ((7, A[1]), (5, ((1,),)), one(5, 3), one(2, 2), zero(5, 8)):
                with self.assertRaises(OtherTable) as caught:
                    call(A, other)
                self.assertIs(caught.exception.thing, other)
            with self.assertRaises(BadTable) as caught:
                call(A, (2, ((2,),)))
            self.assertEqual(caught.exception.thing, (2, ((2,),)))
            with self.assertRaises(BadTable) as caught:
                call((2, ((3,),)), (2, ((2,),)))
            self.assertEqual(caught.exception.thing, (2, ((3,),)))


class Powers(unittest.TestCase):
    def test_low_ones(self):
        for table in random_tables(7):
            found = plain_one(table[0], len(table[1]))
            for k in range(12):
                self.assertEqual(power(table, k), found)
                found = plain_product(found, table)

    def test_power_0_of_0(self):
        for p in PRIMES:
            for n in (1, 8):
                self.assertEqual(power(zero(p, n), 0), plain_one(p, n))
                self.assertEqual(power(zero(p, n), 1), zero(p, n))

    def test_great_ones(self):
        for p in PRIMES:
            for number in range(p):
                self.assertEqual(power((p, ((number,),)), 10 ** 30), (p, ((pow(number, 10 ** 30, p),),)))
            # The k-th power of this one tells k by p beside its diagonal.
            shear = (p, ((1, 1), (0, 1)))
            for k in (0, 1, 10 ** 30 - 1, 10 ** 30):
                self.assertEqual(power(shear, k), (p, ((1, k % p), (0, 1))))
        ring = (7, tuple(tuple(int(k == (i + 1) % 7) for k in range(7)) for i in range(7)))
        for k in (10 ** 30, 10 ** 30 - 3):
            self.assertEqual(power(ring, k), power(ring, k % 7))

    def test_sums_of_k(self):
        for table in random_tables(8, 1):
            self.assertEqual(power(table, 10 ** 30), product(power(table, 10 ** 30 - 77), power(table, 77)))

    def test_wrong_k(self):
        for k in (-1, -HUGE, True, False, None, "2", (2,), [2], {}):
            with self.assertRaises(BadNumber) as caught:
                power(A, k)
            self.assertIs(caught.exception.thing, k)


class Ranks(unittest.TestCase):
    def test_rank_of_all_small_ones(self):
        for p, n in ((2, 1), (2, 2), (2, 3), (3, 2), (5, 1), (7, 1)):
            for table in all_tables(p, n):
                self.assertEqual(rank(table), plain_rank(table))
                self.assertEqual(determinant(table), plain_determinant(table))
                self.assertIs(undone(table) is None, plain_determinant(table) == 0)

    def test_each_rank(self):
        rng = random.Random(9)
        for p in PRIMES:
            for n in range(1, 9):
                for wanted in range(n + 1):
                    diagonal = tuple(tuple(int(i == k and i < wanted) for k in range(n)) for i in range(n))
                    left, right = self.free_table(rng, p, n), self.free_table(rng, p, n)
                    table = product(product(left, (p, diagonal)), right)
                    self.assertEqual(rank(table), wanted)
                    self.assertIs(undone(table) is None, wanted < n)
                    self.assertIs(determinant(table) == 0, wanted < n)

    def free_table(self, rng, p, n):
        """A product of a lower and an upper table with no 0 on the diagonal, with its rows moved round."""
        low = tuple(tuple(rng.randrange(p) if k < i else int(i == k) for k in range(n)) for i in range(n))
        high = tuple(tuple(rng.randrange(p) if k > i else rng.randrange(1, p) if i == k else 0 for k in range(n))
                     for i in range(n))
        rows = plain_product((p, low), (p, high))[1]
        at = rng.randrange(n)
        return p, rows[at:] + rows[:at]

    def test_rank_of_tables_through_fewer_rows(self):
        rng = random.Random(10)
        for p in PRIMES:
            for n in range(2, 9):
                self.assertLess(rank(lower_rank_table(rng, p, n, n - 1)), n)
                self.assertLessEqual(rank(lower_rank_table(rng, p, n, 1)), 1)
        for table in random_tables(11):
            self.assertEqual(rank(table), rank(mirror(table)))

    def test_determinant(self):
        for table in random_tables(12):
            if len(table[1]) < 7:
                self.assertEqual(determinant(table), plain_determinant(table))

    def test_determinant_of_products_and_exchanges(self):
        rng = random.Random(13)
        for table in random_tables(14):
            p, rows = table
            other = random_table(rng, p, len(rows))
            self.assertEqual(determinant(product(table, other)), determinant(table) * determinant(other) % p)
            self.assertEqual(determinant(mirror(table)), determinant(table))
            if len(rows) > 1:
                self.assertEqual(determinant((p, rows[1:2] + rows[:1] + rows[2:])), -determinant(table) % p)

    def test_undone(self):
        found = 0
        for table in random_tables(15, 8):
            back = undone(table)
            unit = plain_one(table[0], len(table[1]))
            self.assertIs(back is None, rank(table) < len(table[1]))
            if back is not None:
                found += 1
                self.assertIs(says_table(back), True)
                self.assertEqual([plain_product(table, back), plain_product(back, table)], [unit, unit])
                self.assertEqual(undone(back), table)
        self.assertGreater(found, 50)

    def test_undone_products(self):
        rng = random.Random(16)
        for p in PRIMES:
            for n in range(1, 9):
                first, second = self.free_table(rng, p, n), self.free_table(rng, p, n)
                self.assertEqual(undone(product(first, second)), product(undone(second), undone(first)))

    def test_one_and_zero(self):
        for p in PRIMES:
            for n in (1, 8):
                self.assertEqual([undone(one(p, n)), rank(one(p, n)), determinant(one(p, n))], [one(p, n), n, 1])
                self.assertEqual([undone(zero(p, n)), rank(zero(p, n)), determinant(zero(p, n))], [None, 0, 0])

    def test_diagonal_sum_and_mirror(self):
        for table in random_tables(17):
            p, rows = table
            n = len(rows)
            self.assertEqual(diagonal_sum(table), sum(rows[k][k] for k in range(n)) % p)
            self.assertEqual(mirror(table), (p, tuple(tuple(rows[i][k] for i in range(n)) for k in range(n))))
            self.assertEqual(mirror(mirror(table)), table)
        self.assertEqual(mirror((3, ((0, 1, 2), (0, 0, 1), (2, 2, 0)))), (3, ((0, 0, 2), (1, 0, 2), (2, 1, 0))))


class LedAndTurned(unittest.TestCase):
    def test_led(self):
        rng = random.Random(18)
        for table in random_tables(19):
            p, rows = table
            n = len(rows)
            row = random_row(rng, p, n)
            self.assertEqual(led(table, row), tuple(sum(row[i] * rows[i][k] for i in range(n)) % p for k in range(n)))
            for k in range(n):
                self.assertEqual(led(table, plain_one(p, n)[1][k]), rows[k])
            self.assertEqual(led(table, (0,) * n), (0,) * n)

    def test_wrong_rows(self):
        for row in ((), (1,), (1, 2, 3), (1, 5), (-1, 0), (True, 1), [1, 2], None, "12", ((1, 2),), {0: 1}, 1, A):
            with self.assertRaises(BadRow) as caught:
                led(A, row)
            self.assertIs(caught.exception.thing, row)
            self.assertRaises(BadTable, led, (4, A[1]), row)

    def test_turned(self):
        rng = random.Random(20)
        for table in random_tables(21, 8):
            by = random_table(rng, table[0], len(table[1]))
            if undone(by) is None:
                continue
            found = turned(table, by)
            self.assertEqual(found, plain_product(plain_product(by, table), undone(by)))
            self.assertEqual(turned(found, undone(by)), table)
            self.assertEqual([rank(found), determinant(found), diagonal_sum(found)],
                             [rank(table), determinant(table), diagonal_sum(table)])

    def test_lost(self):
        rng = random.Random(22)
        found = 0
        for table in random_tables(23, 8):
            p, rows = table
            by = lower_rank_table(rng, p, len(rows), rng.randrange(len(rows)))
            with self.assertRaises(Lost) as caught:
                turned(table, by)
            row = caught.exception.row
            self.assertIs(type(row) is tuple and len(row) == len(rows), True)
            self.assertTrue(all(type(x) is int and 0 <= x < p for x in row) and any(row))
            self.assertEqual(led(by, row), (0,) * len(rows))
            found += 1
        self.assertGreater(found, 50)

    def test_lost_comes_last(self):
        self.assertRaises(Lost, turned, A, FLAT)
        self.assertRaises(OtherTable, turned, A, (7, ((1, 2), (2, 4))))
        self.assertRaises(OtherTable, turned, one(5, 3), FLAT)
        self.assertRaises(BadTable, turned, (5, ((1, 2), (3, 5))), FLAT)
        for p in PRIMES:
            for n in (1, 8):
                self.assertRaises(Lost, turned, one(p, n), zero(p, n))


if __name__ == "__main__":
    unittest.main()

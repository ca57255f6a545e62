"""[2.1], [2.2] and the interface of fewfolds/polys.py."""

import itertools
import random
import unittest

from fewfolds.errors import BadPoly, BadPrime, BadTable
from fewfolds.polys import at_table, is_poly, is_prime_poly, least_poly, poly_factors, poly_product, whole_poly
from fewfolds.tables import determinant, diagonal_sum, mirror, one, product, turned, undone, zero
from support import HUGE, ODD_VALUES, PRIMES, any_value, monic_polys, plain_at_table, plain_poly_product
from support import plain_prime_polys, plain_whole_poly, plain_zero, random_poly, random_table, random_tables
from support import says_poly, spoiled

# How many prime polynomials of each degree from 1 on there are.
MANY_PRIMES = {2: (2, 1, 2, 3, 6, 9, 18, 30), 3: (3, 3, 8, 18, 48), 5: (5, 10, 40, 150), 7: (7, 21, 112)}


def multiplied(p, factors, lead=1):
    """The product of the prime polynomials, each as often as is told."""
    found = (lead,)
    for prime, many in factors:
        for _ in range(many):
            found = plain_poly_product(p, found, prime)
    return found


class Kinds(unittest.TestCase):
    def test_right_and_wrong_polys(self):
        for p in PRIMES:
            for poly in ((), (1,), (p - 1,), (0, 1), (0,) * 59 + (1,), (p - 1,) * 60, (1,) * 20):
                self.assertIs(is_poly(p, poly), True)
            for thing in ((0,), (1, 0), (0, 0), (p,), (1, p), (p, 1), (-1,), (-1, 1), (True,), (1, True), (False, 1),
                          (0,) * 60 + (1,), (1,) * 61, (1,) * 3000, [1], [], None, "1", 1, {}, ((1,),), ("1",),
                          (HUGE,), (None, 1), ((), 1), ([], 1)):
                self.assertIs(is_poly(p, thing), False, thing)
            for thing in ODD_VALUES:
                self.assertIs(is_poly(p, thing), says_poly(p, thing), thing)

    def test_any_value(self):
        rng = random.Random(41)
        for _ in range(2000):
            p = rng.choice(PRIMES)
            for thing in (any_value(rng), spoiled(rng, random_poly(rng, p, rng.randrange(6)))):
                self.assertIs(is_poly(p, thing), says_poly(p, thing), thing)

    def test_wrong_primes(self):
        for p in ODD_VALUES:
            for call in (is_poly, is_prime_poly, poly_factors):
                for thing in ((1, 1), (9,), None):
                    with self.assertRaises(BadPrime) as caught:
                        call(p, thing)
                    self.assertIs(caught.exception.thing, p)
            with self.assertRaises(BadPrime) as caught:
                poly_product(p, None, (0,))
            self.assertIs(caught.exception.thing, p)


class Primes(unittest.TestCase):
    def test_low_degrees(self):
        for p, most in ((2, 8), (3, 5), (5, 4), (7, 3)):
            primes = set(plain_prime_polys(p, most))
            for degree in range(1, most + 1):
                polys = monic_polys(p, degree)
                self.assertEqual({poly for poly in polys if is_prime_poly(p, poly)}, primes & set(polys))
                self.assertEqual(len(primes & set(polys)), MANY_PRIMES[p][degree - 1])

    def test_no_prime_ones(self):
        for p in PRIMES:
            for thing in [(), (1,), (p - 1,), (0, 0, 1), (1, 0), (0, 1, 0), [0, 1], (True, 1), (0, True), (p, 1),
                          (0,) * 59 + (1,), (1,) * 61, None, "x", 1, ((0, 1),)]:
                self.assertIs(is_prime_poly(p, thing), False, thing)
            for thing in ODD_VALUES:
                self.assertIs(is_prime_poly(p, thing), says_poly(p, thing) and len(thing) == 2 and thing[1] == 1)
            for lead in range(2, p):
                self.assertIs(is_prime_poly(p, (0, lead)), False)
                self.assertIs(is_prime_poly(p, (1, lead)), False)

    def test_great_ones(self):
        # x ** p - x - 1 is a prime polynomial by p, and so are these long ones by 2.
        for p in PRIMES:
            poly = (p - 1, p - 1) + (0,) * (p - 2) + (1,)
            self.assertIs(is_prime_poly(p, poly), True)
            self.assertIs(is_prime_poly(p, plain_poly_product(p, poly, poly)), False)
        for at, degree in ((1, 15), (3, 17), (3, 20), (5, 23), (3, 41), (21, 47), (7, 57)):
            poly = tuple(int(k in (0, at, degree)) for k in range(degree + 1))
            self.assertIs(is_prime_poly(2, poly), True, degree)
        self.assertIs(is_prime_poly(2, (1,) * 59), True)
        self.assertIs(is_prime_poly(2, (1,) * 60), False)
        self.assertIs(is_prime_poly(2, (1,) * 57), False)


class Products(unittest.TestCase):
    def test_small_and_great_ones(self):
        rng = random.Random(42)
        for p in PRIMES:
            for sizes in itertools.product((0, 1, 2, 3, 5, 20), repeat=2):
                first, second = (random_poly(rng, p, size) for size in sizes)
                found = poly_product(p, first, second)
                self.assertEqual(found, plain_poly_product(p, first, second))
                self.assertIs(says_poly(p, found), True)
                self.assertEqual(found, poly_product(p, second, first))

    def test_zero_one_and_numbers(self):
        for p in PRIMES:
            for poly in ((), (1,), (p - 1, 1), (1,) * 20):
                self.assertEqual(poly_product(p, (), poly), ())
                self.assertEqual(poly_product(p, poly, ()), ())
                self.assertEqual(poly_product(p, (1,), poly), poly)
                self.assertEqual(poly_product(p, poly, (p - 1,)), tuple(-x % p for x in poly))

    def test_sixty_numbers(self):
        for p in PRIMES:
            poly = (1,) * 60
            self.assertEqual(poly_product(p, poly, (1,)), poly)
            self.assertEqual(poly_product(p, poly, poly), plain_poly_product(p, poly, poly))
            for wrong in ((1,) * 61, (0,) * 60 + (1,)):
                with self.assertRaises(BadPoly) as caught:
                    poly_product(p, poly, wrong)
                self.assertIs(caught.exception.thing, wrong)

    def test_first_wrong_one(self):
        for wrong in ((0,), (1, 0), (5,), [1], None, (True,), "1", 1):
            for other in ((1,), (0, 0), None):
                with self.assertRaises(BadPoly) as caught:
                    poly_product(5, wrong, other)
                self.assertIs(caught.exception.thing, wrong)
            with self.assertRaises(BadPoly) as caught:
                poly_product(5, (1,), wrong)
            self.assertIs(caught.exception.thing, wrong)


class Factors(unittest.TestCase):
    def judge(self, p, poly):
        """The factors are ascending pairs of prime polynomials, and multiplied they are poly."""
        found = poly_factors(p, poly)
        self.assertIs(type(found), tuple)
        self.assertEqual(list(found), sorted(found))
        self.assertEqual(len({prime for prime, _ in found}), len(found))
        for pair in found:
            self.assertTrue(type(pair) is tuple and len(pair) == 2)
            self.assertTrue(type(pair[1]) is int and pair[1] > 0)
            self.assertIs(is_prime_poly(p, pair[0]), True)
        self.assertEqual(multiplied(p, found, poly[-1]), poly)
        return found

    def test_all_low_ones(self):
        for p, most in ((2, 8), (3, 5), (5, 3), (7, 3)):
            primes = set(plain_prime_polys(p, most))
            for degree in range(most + 1):
                for poly in monic_polys(p, degree):
                    self.assertTrue(all(prime in primes for prime, _ in self.judge(p, poly)))

    def test_built_of_primes(self):
        rng = random.Random(43)
        for p in PRIMES:
            primes = plain_prime_polys(p, 3)
            for _ in range(60):
                told, size = {}, 1
                while size < 19:
                    prime = rng.choice(primes)
                    many = rng.choice((1, 1, 2, 3, p, p + 1, 2 * p))
                    size += many * (len(prime) - 1)
                    if size <= 20:
                        told[prime] = told.get(prime, 0) + many
                wanted = tuple(sorted(told.items()))
                lead = rng.randrange(1, p)
                self.assertEqual(poly_factors(p, multiplied(p, wanted, lead)), wanted)

    def test_powers(self):
        for p in PRIMES:
            for prime in plain_prime_polys(p, 2):
                for many in range(1, 20 // len(prime) + 4):
                    self.assertEqual(poly_factors(p, multiplied(p, ((prime, many),))), ((prime, many),))

    def test_random_ones(self):
        rng = random.Random(44)
        for p in PRIMES:
            for size in list(range(1, 21)) * 2 + [40, 60, 60]:
                self.judge(p, random_poly(rng, p, size))

    def test_long_ones(self):
        for p in PRIMES:
            self.assertEqual(poly_factors(p, (0,) * 59 + (p - 1,)), (((0, 1), 59),))
            self.judge(p, (1,) * 60)
            self.judge(p, (1,) * 20)

    def test_all_different_numbers(self):
        # x ** p - x is the product of all x - c.
        for p in PRIMES:
            poly = (0, p - 1) + (0,) * (p - 2) + (1,)
            self.assertEqual(poly_factors(p, poly), tuple(((c, 1), 1) for c in range(p)))

    def test_degree_0(self):
        for p in PRIMES:
            for number in range(1, p):
                self.assertEqual(poly_factors(p, (number,)), ())

    def test_wrong_ones(self):
        for thing in ODD_VALUES + [(), (0,), (0, 0), (1, 0), (3,), (1, True), [1, 1], (1,) * 61]:
            if thing == () or not says_poly(3, thing):
                with self.assertRaises(BadPoly) as caught:
                    poly_factors(3, thing)
                self.assertIs(caught.exception.thing, thing)


class AtTables(unittest.TestCase):
    def test_all_degrees(self):
        rng = random.Random(45)
        for table in random_tables(46):
            for size in (0, 1, 2, 3, 9, 20, 60):
                poly = random_poly(rng, table[0], size)
                self.assertEqual(at_table(poly, table), plain_at_table(poly, table))

    def test_edges(self):
        for p in PRIMES:
            for n in (1, 8):
                table = random_table(random.Random(p + n), p, n)
                self.assertEqual(at_table((), table), plain_zero(p, n))
                self.assertEqual(at_table((0, 1), table), table)
                self.assertEqual(at_table((1,), zero(p, n)), one(p, n))
                self.assertEqual(at_table((0, 1, 1), zero(p, n)), zero(p, n))

    def test_products(self):
        rng = random.Random(47)
        for table in random_tables(48, 1):
            p = table[0]
            first, second = random_poly(rng, p, 6), random_poly(rng, p, 4)
            self.assertEqual(at_table(poly_product(p, first, second), table),
                             product(at_table(first, table), at_table(second, table)))

    def test_order_of_errors(self):
        good = (3, ((1, 2), (0, 1)))
        for poly in ((0,), (3,), (1, 0), [1], None, (True,), (1,) * 61, "1"):
            with self.assertRaises(BadPoly) as caught:
                at_table(poly, good)
            self.assertIs(caught.exception.thing, poly)
            for table in ((3, ((1, 2), (0, 3))), None, [3, ((1,),)], (4, ((1,),))):
                with self.assertRaises(BadTable) as caught:
                    at_table(poly, table)
                self.assertIs(caught.exception.thing, table)


class WholeAndLeast(unittest.TestCase):
    def test_whole_poly(self):
        for table in random_tables(49):
            p, rows = table
            whole = whole_poly(table)
            self.assertTrue(says_poly(p, whole) and whole[-1] == 1 and len(whole) == len(rows) + 1)
            if len(rows) < 6:
                self.assertEqual(whole, plain_whole_poly(table))
            self.assertEqual(plain_at_table(whole, table), plain_zero(p, len(rows)))
            self.assertEqual(whole[-2], -diagonal_sum(table) % p)
            self.assertEqual(whole[0], (-1) ** len(rows) * determinant(table) % p)
            self.assertEqual(whole_poly(mirror(table)), whole)

    def test_whole_poly_of_all_small_ones(self):
        for p, n in ((2, 3), (3, 2), (5, 2)):
            for numbers in itertools.product(range(p), repeat=n * n):
                table = p, tuple(numbers[k * n:k * n + n] for k in range(n))
                self.assertEqual(whole_poly(table), plain_whole_poly(table))

    def test_least_poly_of_all_small_ones(self):
        for p, n in ((2, 3), (3, 2), (5, 2), (7, 1)):
            for numbers in itertools.product(range(p), repeat=n * n):
                table = p, tuple(numbers[k * n:k * n + n] for k in range(n))
                lesser = [poly for degree in range(1, n + 1) for poly in monic_polys(p, degree)
                          if plain_at_table(poly, table) == plain_zero(p, n)]
                self.assertEqual(least_poly(table), lesser[0])

    def test_least_poly(self):
        for table in random_tables(50):
            p, rows = table
            least = least_poly(table)
            self.assertTrue(says_poly(p, least) and least[-1] == 1 and 2 <= len(least) <= len(rows) + 1)
            self.assertEqual(plain_at_table(least, table), plain_zero(p, len(rows)))
            # No divisor of it, one prime polynomial less, is 0 there, so that none of less degree is.
            factors = poly_factors(p, least)
            for prime, _ in factors:
                less = multiplied(p, [(poly, many - (poly == prime)) for poly, many in factors])
                self.assertNotEqual(plain_at_table(less, table), plain_zero(p, len(rows)))
            whole = dict(poly_factors(p, whole_poly(table)))
            self.assertEqual({prime for prime, _ in factors}, set(whole))
            self.assertTrue(all(many <= whole[prime] for prime, many in factors))

    def test_one_zero_and_numbers(self):
        for p in PRIMES:
            for n in range(1, 9):
                for number in range(p):
                    table = p, tuple(tuple(number if i == k else 0 for k in range(n)) for i in range(n))
                    self.assertEqual(least_poly(table), (-number % p, 1))
                    self.assertEqual(whole_poly(table), multiplied(p, (((-number % p, 1), n),)))

    def test_least_of_a_long_fall(self):
        for p in PRIMES:
            for n in range(1, 9):
                fall = p, tuple(tuple(int(k == i + 1) for k in range(n)) for i in range(n))
                self.assertEqual(least_poly(fall), (0,) * n + (1,))
                self.assertEqual(whole_poly(fall), (0,) * n + (1,))

    def test_turned_ones_have_the_same(self):
        rng = random.Random(51)
        for table in random_tables(52):
            by = random_table(rng, table[0], len(table[1]))
            if undone(by) is not None:
                found = turned(table, by)
                self.assertEqual(whole_poly(found), whole_poly(table))
                self.assertEqual(least_poly(found), least_poly(table))

    def test_wrong_tables(self):
        for call in (whole_poly, least_poly):
            for value in ODD_VALUES:
                with self.assertRaises(BadTable) as caught:
                    call(value)
                self.assertIs(caught.exception.thing, value)


if __name__ == "__main__":
    unittest.main()

"""Two factors with told values, on which [5.3] stands: fewfolds/splits.py."""

import random
import unittest

from fewfolds.splits import is_number_times_one, told_factors
from kinds import diagonal_table, free_table, kinds, lost_of, plain_determinant_of, plain_product, turned_by
from support import PRIMES, plain_whole_poly, random_row, plain_poly_product


def poly_of(p, numbers):
    """The product of all x - b for the numbers b."""
    found = (1,)
    for number in numbers:
        found = plain_poly_product(p, found, (-number % p, 1))
    return found


class Splits(unittest.TestCase):
    def judge(self, rng, table):
        """Told any values that fit the determinant, there are two factors with these."""
        p, rows = table
        n = len(rows)
        firsts, seconds = (tuple(rng.randrange(1, p) for _ in range(n)) for _ in range(2))
        worth = plain_determinant_of(table)
        for number in firsts + seconds[1:]:
            worth = worth * pow(number, -1, p) % p
        seconds = (worth,) + seconds[1:]
        one, other = told_factors(table, firsts, seconds)
        self.assertEqual(plain_product(one, other), table)
        if n < 6:
            self.assertEqual(plain_whole_poly(one), poly_of(p, firsts))
            self.assertEqual(plain_whole_poly(other), poly_of(p, seconds))
        self.assertEqual(plain_determinant_of(one), -poly_of(p, firsts)[0] * (-1) ** (n + 1) % p)

    def test_tables_of_all_kinds(self):
        rng = random.Random(181)
        for p in PRIMES:
            for n in range(1, 9):
                for table in kinds(rng, p, n):
                    if lost_of(table) == 0 and (n == 1 or not is_number_times_one(table)):
                        self.judge(rng, table)

    def test_diagonals(self):
        rng = random.Random(182)
        for p in (3, 5, 7):
            for n in range(2, 9):
                for many in range(1, n):
                    table = diagonal_table(p, (1,) * many + (p - 1,) * (n - many))
                    self.judge(rng, table)
                    self.judge(rng, turned_by(table, free_table(rng, p, n)))

    def test_numbers_times_1(self):
        rng = random.Random(183)
        for p in PRIMES:
            for n in range(1, 9):
                for table in kinds(rng, p, n) + [diagonal_table(p, random_row(rng, p, n))]:
                    number = table[1][0][0]
                    self.assertIs(is_number_times_one(table), table == diagonal_table(p, (number,) * n))


if __name__ == "__main__":
    unittest.main()

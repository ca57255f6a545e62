"""[9.1], [9.2] and the interface of fewfolds/shears.py."""

import random

from fewfolds.errors import BadTable
from fewfolds.shears import fewest_shears, is_fold_beside_one, is_shear, judge_shears, shears_hold
from kinds import SMALL_SIZES, all_tables, block_table, classes, companion_of, diagonal_table, free_table, kinds
from kinds import moved_of, plain_determinant_of, poly_to, product_of, table_of_class, tables_of_all_kinds, triangle
from kinds import turned_by, undoing_of
from product_words import fold_beside_one, random_shear, says_fewest, says_fold_beside_one, says_shear, says_shears
from support import HUGE, ODD_VALUES, PRIMES, plain_one, plain_product, plain_zero, random_row
from words import PointCase

A = (5, ((1, 2), (3, 4)))
POINT = (shears_hold, says_shears)


def with_determinant_1(rng, p, n):
    table = free_table(rng, p, n)
    back = pow(plain_determinant_of(table), -1, p)
    return plain_product(diagonal_table(p, (back,) + (1,) * (n - 1)), table)


def numbers_with_product_1(rng, p, n):
    numbers = [rng.randrange(1, p) for _ in range(n - 1)]
    worth = 1
    for number in numbers:
        worth = worth * number % p
    return tuple(numbers) + (pow(worth, -1, p),)


def tables_with_determinant_1(rng, p, n):
    """One table of each kind."""
    numbers = numbers_with_product_1(rng, p, n)
    few = (1,) * (n - 1)
    return [with_determinant_1(rng, p, n), turned_by(diagonal_table(p, numbers), free_table(rng, p, n)),
            triangle(rng, p, n, numbers), triangle(rng, p, n, (1,) * n),
            turned_by(triangle(rng, p, n, (1,) * n), free_table(rng, p, n)), plain_one(p, n),
            # Blocks that have the determinant 1 by their first number.
            companion_of(p, ((-1) ** n % p,) + random_row(rng, p, n - 1) + (1,)),
            turned_by(diagonal_table(p, few + (1,)), free_table(rng, p, n))]


class Shears(PointCase):
    def test_all_kinds(self):
        rng = random.Random(301)
        for table in tables_of_all_kinds(302):
            p, rows = table
            self.assertIs(is_shear(table), says_shear(table))
            self.assertIs(is_fold_beside_one(table), says_fold_beside_one(table))
            if len(rows) > 1:
                self.assertIs(is_shear(random_shear(rng, p, len(rows))), True)

    def test_near_shears(self):
        for p in PRIMES:
            for n in range(1, 9):
                one = plain_one(p, n)
                self.assertIs(is_shear(one), False)
                self.assertIs(is_shear(plain_zero(p, n)), False)
                for i in range(n):
                    for k in range(n):
                        for number in range(1, p):
                            rows = [list(row) for row in one[1]]
                            rows[i][k] = (rows[i][k] + number) % p
                            self.assertIs(is_shear((p, tuple(tuple(row) for row in rows))), i != k)

    def test_1_and_a_multiple_of_a_fold(self):
        rng = random.Random(303)
        for p in PRIMES:
            for n in range(1, 9):
                for keeps in range(n + 1):
                    table = fold_beside_one(rng, p, n, keeps)
                    self.assertIs(is_fold_beside_one(table), keeps > 0)
                for table in tables_with_determinant_1(rng, p, n):
                    self.assertIs(is_fold_beside_one(table), says_fold_beside_one(table))
                fall = companion_of(p, (0,) * n + (1,))
                self.assertIs(is_fold_beside_one(fall), n == 1)
                self.assertIs(is_fold_beside_one(plain_one(p, n)), False)
                self.assertIs(is_fold_beside_one(plain_zero(p, n)), True)
                for number in range(p):
                    self.assertIs(is_fold_beside_one(diagonal_table(p, (number,) * n)), number != 1)

    def test_small_ones(self):
        for p, n in SMALL_SIZES:
            for table in all_tables(p, n):
                self.assertIs(is_shear(table), says_shear(table))
                self.assertIs(is_fold_beside_one(table), says_fold_beside_one(table))


class Fewest(PointCase):
    def judge(self, table):
        found = self.told(judge_shears, *POINT, table)
        fewest = fewest_shears(table)
        self.assertEqual(repr(fewest), repr(says_fewest(table)))
        self.assertEqual(found[0], "determinant" if fewest is None else "shears")
        return fewest

    def test_all_kinds(self):
        found = set()
        for table in tables_of_all_kinds(304, 2):
            found.add((table[0], self.judge(table) is None))
        self.assertEqual(found, {(p, is_none) for p in PRIMES for is_none in (True, False)})

    def test_determinant_1_of_all_kinds(self):
        rng = random.Random(305)
        for p in PRIMES:
            for n in range(1, 9):
                for _ in range(2):
                    for table in tables_with_determinant_1(rng, p, n):
                        self.assertIsNotNone(self.judge(table))

    def test_products_of_shears(self):
        rng = random.Random(306)
        for p in PRIMES:
            for n in range(2, 9):
                for many in range(n + 3):
                    shears = [random_shear(rng, p, n) for _ in range(many)]
                    self.assertLessEqual(self.judge(product_of(p, n, shears)), max(many, 0))

    def test_1_and_a_multiple_of_a_fold(self):
        rng = random.Random(307)
        more = 0
        for p in PRIMES:
            for n in range(1, 9):
                for keeps in range(n + 1):
                    for _ in range(3):
                        table = fold_beside_one(rng, p, n, keeps)
                        fewest = self.judge(table)
                        if fewest is not None and keeps > 0:
                            self.assertEqual(fewest, keeps + 1)
                            more += 1
        self.assertGreater(more, 20)

    def test_all_but_1_and_a_multiple_of_a_fold(self):
        # On the way from such tables with fewer shears there lie others that are 1 and a multiple of a fold.
        rng = random.Random(308)
        for p in PRIMES[1:]:
            for n in range(2, 9):
                for number in range(2, p):
                    for many in range(1, n):
                        rest = pow(number, -many, p)
                        told = (number,) * many + (rest,) + (1,) * (n - many - 1)
                        table = turned_by(diagonal_table(p, told), free_table(rng, p, n))
                        self.judge(table)
                        self.judge(plain_product(table, random_shear(rng, p, n)))

    def test_what_comes_to_0_at_once_beside_1(self):
        rng = random.Random(309)
        for p in PRIMES:
            for n in range(2, 9):
                for many in range(n // 2 + 1):
                    steps = [poly_to(p, (p - 1, 1), 2)] * many + [(p - 1, 1)] * (n - 2 * many)
                    table = turned_by(block_table(p, [companion_of(p, poly) for poly in steps]), free_table(rng, p, n))
                    self.assertEqual(self.judge(table), many)

    def test_one_of_each_class(self):
        for p, most in ((2, 6), (3, 4), (5, 3), (7, 2)):
            for n in range(1, most + 1):
                for told in classes(p, n):
                    self.judge(table_of_class(p, told))

    def test_small_ones_by_products(self):
        for p, n in SMALL_SIZES + ((5, 1), (5, 2), (7, 1), (7, 2)):
            tables = all_tables(p, n)
            shears = [table for table in tables if says_shear(table)]
            fewest, last = {plain_one(p, n): 0}, [plain_one(p, n)]
            while last:
                made = [plain_product(table, shear) for table in last for shear in shears]
                many = fewest[last[0]] + 1
                last = [table for table in dict.fromkeys(made) if table not in fewest]
                fewest.update((table, many) for table in last)
            for table in tables:
                self.assertEqual(fewest_shears(table), fewest.get(table))
                if len(tables) < 1000:
                    self.judge(table)


class Certificates(PointCase):
    def test_other_shears(self):
        rng = random.Random(310)
        found = {True: 0, False: 0}
        for p in PRIMES:
            for n in range(2, 9):
                for many in range(1, n + 1):
                    shears = tuple(random_shear(rng, p, n) for _ in range(many))
                    table = product_of(p, n, shears)
                    found[self.compare(*POINT, table, ("shears", shears))] += 1
                    backwards = tuple(undoing_of(shear) for shear in shears[::-1])
                    back = undoing_of(table)
                    self.assertIs(shears_hold(back, ("shears", backwards)), shears_hold(table, ("shears", shears)))
                    for told in (shears[1:], shears[:-1], shears + shears[:1], shears[::-1], list(shears),
                                 shears[:-1] + (plain_one(p, n),), shears + (plain_one(p, n),), (table,)):
                        self.compare(*POINT, table, ("shears", told))
                    # Two shears change places if the one is turned by the other one.
                    if many > 1 and shears_hold(table, ("shears", shears)):
                        first, second = shears[:2]
                        told = (second, turned_by(first, undoing_of(second))) + shears[2:]
                        self.assertIs(shears_hold(table, ("shears", told)), True)
        self.assertGreater(min(found.values()), 10)

    def test_too_many_and_too_few(self):
        rng = random.Random(311)
        for p in PRIMES:
            for n in range(2, 9):
                shear, back = (lambda told: (told, undoing_of(told)))(random_shear(rng, p, n))
                one = plain_one(p, n)
                self.assertIs(shears_hold(one, ("shears", ())), True)
                self.assertIs(shears_hold(one, ("shears", (shear, back))), False)
                self.assertIs(shears_hold(one, ("shears", (one,))), False)
                self.assertIs(shears_hold(shear, ("shears", (shear,))), True)
                self.assertIs(shears_hold(shear, ("shears", (shear, shear, back))), False)
                self.assertIs(shears_hold(shear, ("shears", (shear, one))), False)
                self.assertIs(shears_hold(shear, ("shears", ())), False)

    def test_what_is_no_shear_has_the_product(self):
        rng = random.Random(316)
        for p in PRIMES:
            for n in range(2, 9):
                for table in tables_with_determinant_1(rng, p, n):
                    shears = judge_shears(table)[1]
                    one, many = plain_one(p, n), len(shears)
                    if many > 1:
                        self.assertIs(shears_hold(table, ("shears", (table,) + (one,) * (many - 1))), False)
                        two = plain_product(shears[0], shears[1])
                        self.assertIs(shears_hold(table, ("shears", (two, one) + shears[2:])), False)
                        self.assertIs(shears_hold(table, ("shears", (one, two) + shears[2:])), False)
                        by = free_table(rng, p, n)
                        told = (plain_product(shears[0], by), plain_product(undoing_of(by), shears[1])) + shears[2:]
                        self.compare(*POINT, table, ("shears", told))

    def test_determinants(self):
        rng = random.Random(312)
        for p in PRIMES:
            for n in range(1, 9):
                for table in kinds(rng, p, n)[:6]:
                    number = plain_determinant_of(table)
                    for told in list(range(-1, p + 2)) + [True, False, None, str(number), (number,), HUGE, number + p]:
                        self.compare(*POINT, table, ("determinant", told))

    def test_wrong_at_one_place(self):
        rng = random.Random(313)
        for p in PRIMES:
            for n in (1, 2, 3):
                for table in tables_with_determinant_1(rng, p, n)[:3] + [free_table(rng, p, n)]:
                    self.compare_wrong_at_one_place(*POINT, judge_shears(table), table)

    def test_any_values(self):
        rng = random.Random(314)
        for p in PRIMES:
            for n in range(1, 9):
                for table in tables_with_determinant_1(rng, p, n)[::2] + kinds(rng, p, n)[::3]:
                    thing = judge_shears(table)
                    self.compare_any_values(rng, *POINT, thing, table)
                    if thing[0] == "shears" and thing[1]:
                        for told in (plain_one(p, n + 1), plain_one(5 if p == 3 else 3, n), [thing[1][0]], thing[1]):
                            self.assertIs(shears_hold(table, ("shears", (told,) + thing[1][1:])), False)
                            self.assertIs(shears_hold(table, ("shears", thing[1][:-1] + (told,))), False)
                        self.assertIs(shears_hold(table, ("shears",) + thing[1]), False)
        for table in (A, (5, ((1, 2), (0, 1))), (2, ((0, 1), (1, 1))), (3, ((1, 0), (0, 1)))):
            self.compare_odd_values(*POINT, (("shears", 2), ("determinant", 2)), table)
            for value in ODD_VALUES:
                self.compare(*POINT, table, ("shears", (value,)))
                self.compare(*POINT, table, ("shears", (value, table)))

    def test_wrong_tables(self):
        for value in ODD_VALUES:
            for call in (is_shear, is_fold_beside_one, fewest_shears, judge_shears,
                         lambda table: shears_hold(table, ("determinant", 0))):
                with self.assertRaises(BadTable) as caught:
                    call(value)
                self.assertIs(caught.exception.thing, value)

    def test_moved_is_told_by_the_shears(self):
        rng = random.Random(315)
        for p in PRIMES:
            for n in range(1, 9):
                table = with_determinant_1(rng, p, n)
                self.assertEqual(len(judge_shears(table)[1]) - says_fold_beside_one(table), moved_of(table))

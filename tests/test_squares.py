"""[10.1] to [10.4] and the interface of fewfolds/squares.py."""

import random

from fewfolds.errors import BadTable
from fewfolds.parts import parts_of
from fewfolds.squares import is_square, judge_square, odd_order, square_holds
from kinds import SMALL_SIZES, all_tables, block_table, classes, companion_of, diagonal_table, free_table, is_prime_one
from kinds import kinds, poly_to, rank_of, some_polys, table_of_class, tables_of_all_kinds, turned_blocks
from kinds import turned_by
from product_words import are_partners_as_asked, fits_odd_order, fits_square, partner_at, power_of, says_square
from product_words import spread_poly, steps_at
from support import HUGE, ODD_VALUES, PRIMES, monic_polys, plain_one, plain_product, plain_zero, random_table
from words import PointCase

A = (5, ((1, 2), (3, 4)))
POINT = (square_holds, says_square)

# By each prime a prime polynomial of each kind that [10.2] names, and steps of all sorts.
SOME = {2: [(0, 1), (1, 1), (1, 1, 1), (1, 1, 0, 1), (1, 0, 1, 1)],
        3: [(0, 1), (1, 1), (2, 1), (1, 0, 1), (2, 1, 1), (2, 2, 1), (1, 2, 0, 1)],
        5: [(0, 1), (1, 1), (2, 1), (4, 1), (3, 0, 1), (2, 0, 1), (1, 1, 1)],
        7: [(0, 1), (1, 1), (2, 1), (6, 1), (1, 0, 1), (3, 1, 1), (2, 0, 0, 1)]}
STEPS = [(1,), (2,), (3,), (4,), (1, 1), (2, 1), (2, 2), (3, 1), (3, 2), (4, 2), (4, 4), (5, 3), (1, 1, 1), (2, 1, 1),
         (2, 2, 1), (2, 2, 2), (3, 3, 1), (3, 2, 1), (3, 1, 1), (2, 1, 1, 1), (1,) * 4, (2, 2, 1, 1), (1,) * 5,
         (3, 2, 2, 1), (8,), (7, 1), (4, 3, 1), (1,) * 8, (2, 2, 2, 2), (2, 1, 1, 1, 1, 1, 1)]


def primes_in(number):
    """The primes that divide a number, by dividing it by one after another."""
    found, prime = set(), 2
    while number > 1:
        if number % prime == 0:
            found.add(prime)
            number //= prime
        else:
            prime += 1
    return found


def odd_multiple(table):
    """An odd number that the odd order divides, if there is one: by the degrees of the prime polynomials."""
    p, _ = table
    found = p ** 3
    for poly, _ in parts_of(table):
        found *= p ** (len(poly) - 1) - 1
    while found % 2 == 0:
        found //= 2
    return found


class Squares(PointCase):
    def judge(self, table):
        found = self.told(judge_square, *POINT, table)
        self.assertIs(is_square(table), found[0] == "root")
        return found[0]

    def test_all_kinds(self):
        found = {(table[0], self.judge(table)) for table in tables_of_all_kinds(321, 2)}
        self.assertEqual(found, {(p, word) for p in PRIMES for word in ("root", "bar")})

    def test_second_powers(self):
        rng = random.Random(322)
        for table in tables_of_all_kinds(323):
            for told in (table, turned_blocks(rng, table[0], len(table[1]))):
                self.assertEqual(self.judge(plain_product(told, told)), "root")

    def test_steps_of_each_kind(self):
        rng = random.Random(324)
        found = set()
        for p in PRIMES:
            for poly in SOME[p]:
                self.assertTrue(is_prime_one(p, poly))
                kind = (p == 2, poly == (0, 1), is_prime_one(p, spread_poly(poly)))
                for steps in STEPS:
                    if (len(poly) - 1) * sum(steps) > 8:
                        continue
                    table = table_of_class(p, {poly: steps})
                    word = self.judge(turned_by(table, free_table(rng, p, len(table[1]))))
                    self.assertEqual(word == "root", fits_square(p, {poly: steps}))
                    found.add(kind + (word,))
        # Where nothing is asked, each is a square.
        self.assertEqual(found, {(two, x, prime, word) for two in (True, False) for x in (True, False)
                                 for prime in (True, False) for word in ("root", "bar")
                                 if not (prime and (two or x)) and (two or x or prime or word == "root")})

    def test_several_polys(self):
        rng = random.Random(325)
        for p in PRIMES:
            for _ in range(60):
                told, rest = {}, 8
                for poly in rng.sample(SOME[p], 3):
                    fitting = [steps for steps in STEPS if (len(poly) - 1) * sum(steps) <= rest]
                    if fitting:
                        told[poly] = rng.choice(fitting)
                        rest -= (len(poly) - 1) * sum(told[poly])
                table = table_of_class(p, told)
                word = self.judge(turned_by(table, free_table(rng, p, len(table[1]))))
                self.assertEqual(word == "root", fits_square(p, told))

    def test_one_of_each_class_by_squaring_all(self):
        # A square is alike to the second power of one of these, as each root is alike to one of them.
        for p, most in ((2, 6), (3, 4), (5, 3), (7, 2)):
            for n in range(1, most + 1):
                every = [(told, table_of_class(p, told)) for told in classes(p, n)]
                reached = {parts_of(plain_product(table, table)) for _, table in every}
                for told, table in every:
                    word = self.judge(table)
                    self.assertEqual(word == "root", tuple(sorted(told.items())) in reached)
                    self.assertEqual(word == "root", fits_square(p, told))

    def test_small_ones_gone_through(self):
        for p, n in SMALL_SIZES + ((5, 1), (5, 2), (7, 1)):
            tables = all_tables(p, n)
            reached = {plain_product(table, table) for table in tables}
            for table in tables:
                self.assertIs(is_square(table), table in reached)
                if len(tables) < 600:
                    self.judge(table)

    def test_great_degrees(self):
        # Prime polynomials of the degree 8, 7 and 4, with what is asked of each: by 2 a root is a power of the table.
        rng = random.Random(326)
        for p in PRIMES:
            for degree in (4, 7, 8):
                found = set()
                while len(found) < (1 if p == 2 else 2):
                    poly = tuple(rng.randrange(p) for _ in range(degree)) + (1,)
                    if is_prime_one(p, poly):
                        found.add(self.judge(companion_of(p, poly)))
            if p > 2:
                poly = next(poly for poly in monic_polys(p, 4) if is_prime_one(p, poly)
                            and is_prime_one(p, spread_poly(poly)))
                self.assertEqual(self.judge(block_table(p, [companion_of(p, poly)] * 2)), "root")
                self.assertEqual(self.judge(companion_of(p, poly_to(p, poly, 2))), "bar")

    def test_numbers_times_1(self):
        for p in PRIMES:
            for n in range(1, 9):
                for number in range(p):
                    has_root = n % 2 == 0 or any(k * k % p == number for k in range(p))
                    self.assertEqual(self.judge(diagonal_table(p, (number,) * n)), "root" if has_root else "bar")

    def test_fallers(self):
        rng = random.Random(327)
        for p in PRIMES:
            for n in range(1, 9):
                fall = companion_of(p, (0,) * n + (1,))
                self.assertEqual(self.judge(fall), "root" if n == 1 else "bar")
                for k in range(1, 4):
                    word = "root" if k > 1 or n == 1 else "bar"
                    told = turned_by(power_of(fall, k), free_table(rng, p, n))
                    self.assertEqual(self.judge(told), word if k != 3 else self.word_of_third(n))

    def word_of_third(self, n):
        """The third power of a fall has the steps that divide n into three as evenly as can be."""
        steps = tuple(sorted((len(range(k, n, 3)) for k in range(3) if k < n), reverse=True))
        return "root" if fits_square(2, {(0, 1): steps}) else "bar"


class Certificates(PointCase):
    def test_other_roots(self):
        rng = random.Random(328)
        for table in tables_of_all_kinds(329):
            p, rows = table
            n = len(rows)
            square = plain_product(table, table)
            opposite = (p, tuple(tuple(-x % p for x in row) for row in rows))
            for root in (table, opposite):
                self.assertIs(square_holds(square, ("root", root)), True)
            for root in (square, plain_one(p, n), plain_zero(p, n), turned_by(table, free_table(rng, p, n)),
                         random_table(rng, p, n)):
                self.compare(*POINT, square, ("root", root))
                self.compare(*POINT, table, ("root", root))
        # The flips are the roots of 1.
        for p in PRIMES:
            self.assertIs(square_holds(plain_one(p, 2), ("root", (p, ((0, 1), (1, 0))))), True)
            self.assertIs(square_holds(plain_one(p, 2), ("root", (p, ((1, 1), (0, p - 1))))), True)

    def test_all_bars(self):
        rng = random.Random(330)
        found = {True: 0, False: 0}
        for p in PRIMES:
            polys = SOME[p] + [(1,), (), (1, 2 % p), (0, 0, 1), (0, 1, 1), (1, 0, 0, 0, 0, 0, 0, 0, 0, 1), (1,) * 60]
            for n in range(1, 9):
                for table in kinds(rng, p, n)[::4] + [diagonal_table(p, (p - 1,) * n)]:
                    for poly in polys:
                        for i in (0, 1, 3):
                            found[self.compare(*POINT, table, ("bar", poly, i))] += 1
        self.assertGreater(min(found.values()), 20)

    def test_second_partners(self):
        rng = random.Random(331)
        for p in PRIMES:
            for poly in SOME[p]:
                for steps in STEPS:
                    if len(steps) < 2 or (len(poly) - 1) * sum(steps) > 8:
                        continue
                    table = table_of_class(p, {poly: steps})
                    table = turned_by(table, free_table(rng, p, len(table[1])))
                    self.assertEqual(steps_at(table, poly), steps)
                    for i in range(-1, 6):
                        told = partner_at(steps, i)
                        wanted = told is not None and not are_partners_as_asked(p, poly, *told)
                        self.assertIs(square_holds(table, ("bar", poly, i)), wanted)

    def test_polys_of_other_tables(self):
        # By 3, (1, 1) asks for equal steps, and is none of the table's; nor is a product of prime ones.
        one = plain_one(3, 3)
        for poly in ((1, 1), (0, 1), (2, 1), (2, 0, 1), (1, 0, 1)):
            for i in range(3):
                self.assertIs(square_holds(one, ("bar", poly, i)), False)
        two = diagonal_table(3, (2, 2, 2))
        for poly, wanted in (((1, 1), True), ((1, True), False), ([1, 1], False), ((1, 1, 0), False), ((2, 2), False),
                             ((1, 2, 1), False), ((-2, 1), False), ((1, 4), False), (None, False), ("11", False),
                             ((1,) * 61, False)):
            self.assertIs(square_holds(two, ("bar", poly, 1)), wanted)
        for i in (1, True, False, 0, 2, -1, None, "1", (1,), [1], HUGE, -HUGE):
            self.assertIs(square_holds(two, ("bar", (1, 1), i)), type(i) is int and i == 1)

    def test_wrong_at_one_place(self):
        rng = random.Random(332)
        for p in PRIMES:
            for n in (1, 2, 3):
                for table in kinds(rng, p, n)[::2] + [power_of(random_table(rng, p, n), 2)]:
                    self.compare_wrong_at_one_place(*POINT, judge_square(table), table)

    def test_any_values(self):
        rng = random.Random(333)
        for table in tables_of_all_kinds(334)[::2]:
            for told in (table, plain_product(table, table)):
                thing = judge_square(told)
                self.compare_any_values(rng, *POINT, thing, told)
                if thing[0] == "root":
                    self.compare_other_tables(*POINT, thing, told)
        for table in (A, (3, ((2, 0), (0, 2))), (2, ((0, 1), (0, 0)))):
            self.compare_odd_values(*POINT, (("root", 2), ("bar", 3)), table)
            for value in ODD_VALUES:
                self.compare(*POINT, table, ("bar", value, 0))
                self.compare(*POINT, table, ("bar", (0, 1), value))

    def test_wrong_tables(self):
        for value in ODD_VALUES:
            for call in (is_square, judge_square, odd_order, lambda table: square_holds(table, ("root", table))):
                with self.assertRaises(BadTable) as caught:
                    call(value)
                self.assertIs(caught.exception.thing, value)


class OddOrder(PointCase):
    def judge(self, table):
        """It is the least one: m holds, and m divided by a prime of it does not."""
        found = odd_order(table)
        if found is None:
            return None
        self.assertIs(type(found), int)
        self.assertEqual(found % 2, 1)
        self.assertGreater(found, 0)
        self.assertEqual(power_of(table, found + 1), table)
        for prime in primes_in(found):
            self.assertNotEqual(power_of(table, found // prime + 1), table)
        # Then the power (m + 1) / 2 is a root, which is endlessly a square, too.
        root = power_of(table, (found + 1) // 2)
        self.assertIs(square_holds(table, ("root", root)), True)
        self.assertEqual(odd_order(root), found)
        return found

    def test_all_kinds(self):
        rng = random.Random(335)
        for table in tables_of_all_kinds(336):
            p, rows = table
            if self.judge(table) is None:
                self.assertNotEqual(power_of(table, odd_multiple(table) + 1), table)
            told = turned_by(table, free_table(rng, p, len(rows)))
            self.assertEqual(odd_order(told), odd_order(table))

    def test_one_of_each_class(self):
        found = {True: 0, False: 0}
        for p, most in ((2, 7), (3, 4), (5, 3), (7, 2)):
            for n in range(1, most + 1):
                for told in classes(p, n):
                    order = self.judge(table_of_class(p, told))
                    self.assertEqual(order is not None, fits_odd_order(p, told))
                    found[order is None] += 1
        self.assertGreater(min(found.values()), 100)

    def test_small_ones_gone_through(self):
        # No table of these has an order beyond 100.
        for p, n in SMALL_SIZES:
            for table in all_tables(p, n):
                square = plain_product(table, table)
                at, order = square, None
                for m in range(1, 101, 2):
                    if at == table:
                        order = m
                        break
                    at = plain_product(at, square)
                self.assertEqual(odd_order(table), order)

    def test_orders_beyond_all_tables_of_a_small_size(self):
        # By 2 a prime polynomial of the degree 8, and of the degrees 5 and 3, whose roots make all others.
        self.assertEqual(self.judge(companion_of(2, (1, 0, 1, 1, 1, 0, 0, 0, 1))), 255)
        told = [companion_of(2, (1, 0, 1, 0, 0, 1)), companion_of(2, (1, 1, 0, 1))]
        self.assertEqual(self.judge(block_table(2, told)), 217)
        # By 3 a step of 8 and of 4, with the value 1: the powers of 1 beside a faller.
        for p, k, wanted in ((3, 8, 9), (3, 4, 9), (3, 3, 3), (3, 2, 3), (5, 8, 25), (5, 5, 5), (7, 8, 49), (7, 7, 7)):
            self.assertEqual(self.judge(companion_of(p, poly_to(p, (p - 1, 1), k))), wanted)
        for k in range(2, 9):
            self.assertIsNone(self.judge(companion_of(2, poly_to(2, (1, 1), k))))
            for p in PRIMES:
                self.assertIsNone(self.judge(companion_of(p, (0,) * k + (1,))))

    def test_numbers_and_folds(self):
        for p in PRIMES:
            for n in range(1, 9):
                for number in range(p):
                    order = next((m for m in range(1, p + 1, 2) if pow(number, m + 1, p) == number), None)
                    self.assertEqual(self.judge(diagonal_table(p, (number,) * n)), order)
                    self.assertEqual(self.judge(diagonal_table(p, (number,) * (n - 1) + (0,))), order if n > 1 else 1)
                for keeps in range(n + 1):
                    self.assertEqual(self.judge(diagonal_table(p, (1,) * keeps + (0,) * (n - keeps))), 1)

    def test_endless_ones_are_squares(self):
        rng = random.Random(337)
        for p in PRIMES:
            for n in range(1, 9):
                for poly in some_polys(rng, p):
                    if len(poly) - 1 <= n:
                        table = block_table(p, [companion_of(p, poly)] + [(p, ((0,),))] * (n - len(poly) + 1))
                        if self.judge(table) is not None:
                            self.assertIs(is_square(table), True)
                            self.assertEqual(rank_of(p, table[1]), rank_of(p, power_of(table, 2)[1]))

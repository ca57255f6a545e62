"""[8.1] to [8.3] and the interface of fewfolds/fallers.py."""

import itertools
import random

from fewfolds.errors import BadPrime, BadTable
from fewfolds.fallers import at_once_holds, fallers_hold, is_faller, judge_at_once, judge_fallers
from kinds import SMALL_SIZES, all_tables, block_table, classes, companion_of, diagonal_table, free_table, kinds, less
from kinds import low_table, poly_to, power_ranks, random_flip, some_polys, table_of_class, tables_of_all_kinds
from kinds import triangle, turned_blocks, turned_by
from support import HUGE, ODD_VALUES, PRIMES, monic_polys, plain_one, plain_product, plain_zero, random_row
from support import random_table
from test_exchanges import with_sum
from words import PointCase, falls, falls_at_once, is_times_one, many_times, opposite, plus, says_at_once, says_fallers
from words import sum_of

A = (5, ((1, 2), (3, 4)))
POINT = (fallers_hold, says_fallers)
ONCE = (at_once_holds, says_at_once)
ODD_PRIMES = PRIMES[1:]


def random_faller(rng, p, n):
    return turned_by(triangle(rng, p, n, (0,) * n), free_table(rng, p, n))


def random_at_once(rng, p, n):
    """A table that leads some rows to others, which it leads to zeros."""
    many = rng.randrange(n // 2 + 1)
    rows = tuple(random_row(rng, p, n - many) + (0,) * many if k >= n - many else (0,) * n for k in range(n))
    return turned_by((p, rows), free_table(rng, p, n))


def paired_blocks(rng, p, n):
    """Companions of polynomials beside those with the opposite roots: alike to the opposite."""
    blocks, rest = [], n
    while rest:
        poly = poly_to(p, rng.choice(some_polys(rng, p)), rng.choice((1, 1, 2)))
        partner = tuple((-1) ** (len(poly) - 1 - k) * x % p for k, x in enumerate(poly))
        told = [poly] if partner == poly else [poly, partner]
        if sum(len(one) - 1 for one in told) <= rest:
            blocks += [companion_of(p, one) for one in told]
            rest -= sum(len(one) - 1 for one in told)
        elif rest == 1:
            blocks.append((p, ((0,),)))
            rest = 0
    return turned_by(block_table(p, blocks), free_table(rng, p, n))


def fits_opposite(table):
    """Whether a table is alike to its opposite: by the ranks at polynomials of a low degree."""
    p, _ = table
    polys = [poly for degree in (1, 2) for poly in monic_polys(p, degree)]
    if len(table[1]) < 6 and p < 7:
        polys += monic_polys(p, 3)
    return all(power_ranks(poly, table, 8) == power_ranks(poly, opposite(table), 8) for poly in polys)


class Fallers(PointCase):
    def test_all_kinds(self):
        rng = random.Random(261)
        for table in tables_of_all_kinds(262) + [random_faller(rng, p, n) for p in PRIMES for n in range(1, 9)]:
            self.assertIs(is_faller(table), falls(table))

    def test_fallers_of_each_step(self):
        rng = random.Random(263)
        for p in PRIMES:
            for n in range(1, 9):
                fall = companion_of(p, (0,) * n + (1,))
                self.assertIs(is_faller(turned_by(fall, free_table(rng, p, n))), True)
                for number in range(1, p):
                    self.assertIs(is_faller(companion_of(p, (0,) * (n - 1) + (number, 1))), False)
                    self.assertIs(is_faller(plus(fall, diagonal_table(p, (number,) * n))), False)

    def test_small_ones(self):
        for p, n in SMALL_SIZES:
            self.assertEqual(sum(is_faller(table) for table in all_tables(p, n)), p ** (n * n - n))


class Judged(PointCase):
    def judge(self, table):
        found = self.told(judge_fallers, *POINT, table)
        fits = sum_of(table) == 0 and (not is_times_one(table) or table[1][0][0] == 0)
        self.assertEqual(found[0] == "fallers", fits)
        return found[0]

    def test_all_kinds(self):
        found = {(table[0], self.judge(table)) for table in tables_of_all_kinds(264)}
        self.assertEqual(found, {(p, word) for p in PRIMES for word in ("fallers", "sum", "number")})

    def test_sum_0_of_all_kinds(self):
        rng = random.Random(265)
        for p in PRIMES:
            for n in range(1, 9):
                for table in kinds(rng, p, n):
                    for total in (0, 1):
                        self.judge(with_sum(table, total))
                    self.judge(turned_by(with_sum(table, 0), free_table(rng, p, n)))

    def test_numbers_times_1(self):
        for p in PRIMES:
            for n in range(1, 9):
                for number in range(p):
                    word = "fallers" if number == 0 else "number" if n % p == 0 else "sum"
                    found = self.judge(diagonal_table(p, (number,) * n))
                    self.assertIn(found, (word, "number") if number else (word,))

    def test_small_ones_gone_through(self):
        for p, n in SMALL_SIZES:
            tables = all_tables(p, n)
            fallers = [table for table in tables if falls(table)]
            reached = {plus(one, other) for one in fallers for other in fallers}
            for table in tables:
                self.assertEqual(self.judge(table) == "fallers", table in reached)

    def test_other_fallers(self):
        rng = random.Random(266)
        for p in PRIMES:
            for n in range(1, 9):
                for _ in range(3):
                    one, other = random_faller(rng, p, n), random_faller(rng, p, n)
                    table = plus(one, other)
                    self.assertEqual(self.judge(table), "fallers")
                    self.assertIs(fallers_hold(table, ("fallers", one, other)), True)
                    self.assertIs(fallers_hold(table, ("fallers", other, one)), True)
                    self.assertIs(fallers_hold(less(one, other), ("fallers", one, opposite(other))), True)
                    for told in ((one, one), (plain_zero(p, n), table), (table, plain_zero(p, n)), (table, other)):
                        self.compare(*POINT, table, ("fallers",) + told)
                    self.compare(*POINT, plain_product(one, other), ("fallers", one, other))

    def test_two_bars_at_once(self):
        two, bars = (5, ((2, 0), (0, 2))), (("sum", 4), ("number", 2))
        for bar in bars:
            self.assertIs(fallers_hold(two, bar), True)
        self.assertIs(fallers_hold((2, ((1, 0), (0, 1))), ("sum", 0)), False)
        self.assertIs(fallers_hold((2, ((1, 0), (0, 1))), ("number", 1)), True)
        self.assertIs(fallers_hold(plain_zero(3, 3), ("number", 0)), False)
        self.assertIs(fallers_hold(plain_zero(3, 3), ("sum", 0)), False)

    def test_bars_with_each_number(self):
        rng = random.Random(267)
        for p in PRIMES:
            for n in range(1, 9):
                for table in (random_table(rng, p, n), diagonal_table(p, (1,) * n), plain_zero(p, n),
                              diagonal_table(p, (p - 1,) * n)):
                    for number in list(range(-1, p + 2)) + [True, False, None, "1", (1,), HUGE]:
                        self.compare(*POINT, table, ("sum", number))
                        self.compare(*POINT, table, ("number", number))

    def test_wrong_at_one_place(self):
        rng = random.Random(268)
        for p in PRIMES:
            for n in (1, 2, 3):
                for table in (with_sum(random_table(rng, p, n), 0), random_table(rng, p, n), plain_one(p, n)):
                    self.compare_wrong_at_one_place(*POINT, judge_fallers(table), table)

    def test_any_values(self):
        rng = random.Random(269)
        for table in tables_of_all_kinds(270)[::2]:
            for told in (table, with_sum(table, 0)):
                thing = judge_fallers(told)
                self.compare_any_values(rng, *POINT, thing, told)
                self.compare_other_tables(*POINT, thing, told)
        for table in (A, (3, ((0, 0), (0, 0))), (2, ((1, 0), (0, 1)))):
            self.compare_odd_values(*POINT, (("fallers", 3), ("sum", 2), ("number", 2)), table)


class AtOnce(PointCase):
    def judge(self, table):
        return self.told(judge_at_once, *ONCE, table)[0]

    def test_all_kinds(self):
        found = set()
        for table in tables_of_all_kinds(271):
            if table[0] > 2:
                word = self.judge(table)
                # What is alike to the opposite has no unlike rank at any polynomial.
                self.assertTrue(word == "apart" or fits_opposite(table))
                found.add((table[0], word))
        self.assertEqual(found, {(p, word) for p in ODD_PRIMES for word in ("at once", "apart")})

    def test_sums_of_two(self):
        rng = random.Random(272)
        for p in ODD_PRIMES:
            for n in range(1, 9):
                for _ in range(4):
                    one, other = random_at_once(rng, p, n), random_at_once(rng, p, n)
                    self.assertTrue(falls_at_once(one) and falls_at_once(other))
                    table = plus(one, other)
                    self.assertEqual(self.judge(table), "at once")
                    for told in ((one, other), (other, one)):
                        self.assertIs(at_once_holds(table, ("at once",) + told), True)
                    self.assertIs(at_once_holds(less(one, other), ("at once", one, opposite(other))), True)
                    for told in ((one, one), (table, plain_zero(p, n)), (plain_zero(p, n), table), (table, other)):
                        self.compare(*ONCE, table, ("at once",) + told)
                    self.compare(*ONCE, plain_product(one, other), ("at once", one, other))

    def test_sums_of_fallers_that_come_later(self):
        rng = random.Random(273)
        for p in ODD_PRIMES:
            for n in range(3, 9):
                one, other = random_faller(rng, p, n), random_faller(rng, p, n)
                self.compare(*ONCE, plus(one, other), ("at once", one, other))
                fall = companion_of(p, (0,) * n + (1,))
                self.assertIs(at_once_holds(fall, ("at once", fall, plain_zero(p, n))), False)
                self.assertEqual(self.judge(fall), "at once")

    def test_alike_to_the_opposite(self):
        rng = random.Random(274)
        for p in ODD_PRIMES:
            for n in range(1, 9):
                for _ in range(4):
                    self.assertEqual(self.judge(paired_blocks(rng, p, n)), "at once")
                    flip = random_flip(rng, p, n)
                    half = lambda table: less(table, turned_by(table, flip))
                    self.assertEqual(self.judge(half(random_table(rng, p, n))), "at once")

    def test_not_alike_to_the_opposite(self):
        rng = random.Random(275)
        for p in ODD_PRIMES:
            for n in range(1, 9):
                for number in range(p):
                    word = "apart" if number else "at once"
                    self.assertEqual(self.judge(diagonal_table(p, (number,) * n)), word)
                for table in (random_table(rng, p, n), low_table(rng, p, n, n - 1), turned_blocks(rng, p, n)):
                    table = with_sum(table, 1)
                    self.assertEqual(self.judge(table), "apart")
            # The same prime polynomials with unlike steps.
            for first, second in (((2,), (1, 1)), ((3, 1), (2, 2)), ((2, 1), (1, 1, 1))):
                blocks = [poly_to(p, (1, 1), k) for k in first] + [poly_to(p, (p - 1, 1), k) for k in second]
                table = block_table(p, [companion_of(p, poly) for poly in blocks])
                self.assertEqual(self.judge(turned_by(table, free_table(rng, p, len(table[1])))), "apart")

    def test_one_of_each_class(self):
        for p, most in ((3, 4), (5, 3), (7, 2)):
            for n in range(1, most + 1):
                for told in classes(p, n):
                    partner = {tuple((-1) ** (len(poly) - 1 - k) * x % p for k, x in enumerate(poly)): steps
                               for poly, steps in told.items()}
                    word = self.judge(table_of_class(p, told))
                    self.assertEqual(word, "at once" if partner == told else "apart")

    def test_small_ones_gone_through(self):
        for p, n in ((3, 1), (5, 1), (7, 1), (3, 2), (5, 2)):
            tables = all_tables(p, n)
            once = [table for table in tables if falls_at_once(table)]
            reached = {plus(one, other) for one, other in itertools.product(once, repeat=2)}
            for table in tables:
                self.assertEqual(self.judge(table), "at once" if table in reached else "apart")

    def test_other_polys_and_powers(self):
        rng = random.Random(276)
        found = {True: 0, False: 0}
        for p in ODD_PRIMES:
            for n in range(1, 9):
                for table in (turned_blocks(rng, p, n), random_table(rng, p, n), paired_blocks(rng, p, n)):
                    for poly in some_polys(rng, p) + [(k, 1) for k in range(p)] + [(1,), (), (1, 2), (0, 0, 1)]:
                        for k in (0, 1, 2, 8, 9):
                            found[self.compare(*ONCE, table, ("apart", poly, k))] += 1
        self.assertGreater(min(found.values()), 50)

    def test_k_at_the_border(self):
        table = companion_of(5, poly_to(5, (3, 1), 8))
        for k in list(range(-1, 11)) + [True, None, "1", (1,), [1], HUGE, -HUGE]:
            wanted = type(k) is int and 1 <= k <= 8
            self.assertIs(at_once_holds(table, ("apart", (3, 1), k)), wanted)
            self.assertIs(at_once_holds(table, ("apart", (2, 1), k)), wanted)
            self.assertIs(at_once_holds(table, ("apart", (4, 1), k)), False)
        for poly in ((3, 2), [3, 1], (3, True), (3, 1, 0), (4, 1, 1), (1,), (), (1,) * 60, (1,) * 61, None, (8, 1)):
            self.assertIs(at_once_holds(table, ("apart", poly, 1)), False)

    def test_wrong_at_one_place(self):
        rng = random.Random(277)
        for p in ODD_PRIMES:
            for n in (1, 2, 3):
                for table in (paired_blocks(rng, p, n), random_table(rng, p, n), plain_one(p, n)):
                    self.compare_wrong_at_one_place(*ONCE, judge_at_once(table), table)

    def test_any_values(self):
        rng = random.Random(278)
        for table in [table for table in tables_of_all_kinds(279) if table[0] > 2][::2]:
            for told in (table, paired_blocks(rng, table[0], len(table[1]))):
                thing = judge_at_once(told)
                self.compare_any_values(rng, *ONCE, thing, told)
                self.compare_other_tables(*ONCE, thing, told)
        for table in (A, (3, ((0, 2), (1, 0))), (7, ((1, 0), (0, 1)))):
            self.compare_odd_values(*ONCE, (("at once", 3), ("apart", 3)), table)

    def test_by_2(self):
        rng = random.Random(280)
        for n in range(1, 9):
            for table in kinds(rng, 2, n):
                for call in (judge_at_once, lambda told: at_once_holds(told, ("at once", told, told))):
                    with self.assertRaises(BadPrime) as caught:
                        call(table)
                    self.assertEqual(repr(caught.exception.thing), "2")


class Words(PointCase):
    def test_of_one_kind_are_none_of_the_other(self):
        rng = random.Random(281)
        for p in ODD_PRIMES:
            for n in range(1, 9):
                one, other = random_at_once(rng, p, n), random_at_once(rng, p, n)
                table = plus(one, other)
                self.assertIs(fallers_hold(table, ("fallers", one, other)), True)
                self.assertIs(fallers_hold(table, ("at once", one, other)), False)
                self.assertIs(at_once_holds(table, ("fallers", one, other)), False)
                self.assertIs(fallers_hold(many_times(table, 2), ("fallers", one, other)), table == plain_zero(p, n))

    def test_wrong_tables(self):
        for value in ODD_VALUES + [(2, ((2,),)), (2, [(1,)])]:
            for call in (is_faller, judge_fallers, judge_at_once, lambda table: fallers_hold(table, ("sum", 1)),
                         lambda table: at_once_holds(table, None)):
                with self.assertRaises(BadTable) as caught:
                    call(value)
                self.assertIs(caught.exception.thing, value)

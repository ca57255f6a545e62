"""That no call takes long, and that each one gives the same again and leaves its arguments as they were."""

import copy
import random
import time
import unittest

from fewfolds import counts, exchanges, fallers, flips, folds, goings, parts, shears, squares, symmetric, told
from kinds import companion_of, diagonal_table, free_table, is_prime_one, kinds, lost_of, plain_determinant_of
from kinds import poly_to, random_fold, triangle, turned_by
from product_words import random_shear
from support import PRIMES, plain_one, plain_product, plain_zero, random_row
from words import sum_of

# Far more than any call takes, in seconds of the processor.
MOST = 2

ONE = [parts.parts_of, parts.plain_form, parts.plain_base, goings.room_of, goings.base_of_room, goings.many_alike,
       folds.is_fold, folds.lost_by, folds.moved_by, folds.lost_rows, folds.still_rows, folds.fewest_folds,
       flips.is_flip, flips.turning_flip, flips.judge_two, flips.judge_four, exchanges.judge_exchange,
       told.is_number, fallers.is_faller, fallers.judge_fallers, shears.is_shear, shears.is_fold_beside_one,
       shears.fewest_shears, shears.judge_shears, squares.is_square, squares.judge_square, squares.odd_order,
       symmetric.is_symmetric, symmetric.symmetric_factors, symmetric.mirror_turning]
TWO = [parts.are_alike, parts.judge_alike, goings.does_go_with, goings.judge_poly, exchanges.exchange]


class Time(unittest.TestCase):
    def run_it(self, call, *args):
        before = copy.deepcopy(args)
        start = time.process_time()
        found = call(*args)
        self.assertLess(time.process_time() - start, MOST, (call, args))
        self.assertEqual(repr(args), repr(before))
        return found

    def test_size_8_of_all_kinds(self):
        rng = random.Random(191)
        for p in PRIMES:
            for table in kinds(rng, p, 8):
                other = turned_by(table, free_table(rng, p, 8))
                for call in ONE:
                    self.assertEqual(self.run_it(call, table), call(table))
                for call in TWO:
                    self.run_it(call, table, other)
                    self.run_it(call, table, free_table(rng, p, 8))
                self.run_it(parts.alike_holds, table, other, parts.judge_alike(table, other))
                self.run_it(goings.poly_holds, table, other, goings.judge_poly(table, other))
                for k in (0, 1, 2, 12):
                    thing = self.run_it(folds.judge_folds, table, k)
                    self.run_it(folds.folds_hold, table, k, thing)
                self.run_it(flips.two_hold, table, flips.judge_two(table))
                self.run_it(flips.four_hold, table, flips.judge_four(table))

    def test_told_numbers_and_sums_of_size_8(self):
        rng = random.Random(192)
        for p in PRIMES:
            for table in kinds(rng, p, 8):
                zeros, total = (0,) * 8, (sum_of(table),) + (0,) * 7
                self.run_it(exchanges.exchange_holds, table, exchanges.judge_exchange(table))
                thing = self.run_it(told.judge_diagonal, table, total)
                self.run_it(told.diagonal_holds, table, total, thing)
                thing = self.run_it(told.judge_sum, table, total, zeros)
                self.run_it(told.sum_holds, table, total, zeros, thing)
                if lost_of(table) == 0:
                    told_ones = (plain_determinant_of(table),) + (1,) * 7, (1,) * 8
                    thing = self.run_it(told.judge_factors, table, *told_ones)
                    self.run_it(told.factors_hold, table, *told_ones, thing)
                self.run_it(fallers.fallers_hold, table, fallers.judge_fallers(table))
                if p > 2:
                    thing = self.run_it(fallers.judge_at_once, table)
                    self.run_it(fallers.at_once_holds, table, thing)
            if p > 2:
                fall = turned_by(companion_of(p, poly_to(p, (0, 1), 8)), free_table(rng, p, 8))
                self.run_it(fallers.judge_at_once, fall)

    def test_shears_squares_and_factors_of_size_8(self):
        rng = random.Random(193)
        for p in PRIMES:
            fall = companion_of(p, (0,) * 8 + (1,))
            special = [random_shear(rng, p, 8), random_fold(rng, p, 8), plain_product(fall, fall),
                       turned_by(triangle(rng, p, 8, (1,) * 8), free_table(rng, p, 8)),
                       turned_by(diagonal_table(p, (p - 1,) * 8), free_table(rng, p, 8))]
            poly = next(poly for poly in iter(lambda: random_row(rng, p, 8) + (1,), None) if is_prime_one(p, poly))
            special += [companion_of(p, poly), plain_product(companion_of(p, poly), companion_of(p, poly))]
            for table in special + kinds(rng, p, 8):
                thing = self.run_it(shears.judge_shears, table)
                self.run_it(shears.shears_hold, table, thing)
                for told_table in (table, plain_product(table, table)):
                    thing = self.run_it(squares.judge_square, told_table)
                    self.run_it(squares.square_holds, told_table, thing)
                    self.run_it(squares.odd_order, told_table)
                self.run_it(symmetric.symmetric_hold, table, self.run_it(symmetric.symmetric_factors, table))

    def test_counts_of_great_sizes(self):
        for p in PRIMES:
            for word in ("tables", "undoable", "folds", "flips", "fallers", "at once", "symmetric"):
                self.run_it(counts.count_of, word, p, 30)
            for k in (0, 15, 30):
                self.run_it(counts.count_rank, p, 30, k)
                self.run_it(counts.count_free, p, 30, k)

    def test_long_polynomials_in_certificates(self):
        for p in PRIMES:
            table, other = plain_zero(p, 8), plain_one(p, 8)
            for poly in ((1,) * 60, (1,) * 59, (p - 1, p - 1) + (0,) * 57 + (1,), (1, 1) + (0,) * 57 + (1,)):
                for k in (1, 8):
                    self.run_it(parts.alike_holds, table, other, ("ranks", poly, k))
                    self.run_it(flips.two_hold, companion_of(p, (1,) * 9), ("apart", poly, k))
                self.run_it(goings.poly_holds, table, other, ("poly", poly))

    def test_great_values(self):
        row = (0,) * 3000
        for p in PRIMES:
            table = plain_one(p, 8)
            for thing in (row, ("folds", row), ("bar", row, row), ("flips", row, row), ("poly", row), ("lost", row),
                          ("alike", (p, (row,) * 1)), ("ranks", row, 1), ("bar", tuple(range(1500)), (0,)),
                          ("exchange", row, row), ("sum", row), ("fallers", row, row), ("turned", row), ("number", row),
                          ("factors", row, row), ("parts", row, row), ("at once", row, row), ("apart", row, 1),
                          ("shears", row), ("root", (p, row)), ("bar", row, 0), ("symmetric", row, row),
                          ("bar", (0,) * 59 + (1,), 0), ("shears", (table,) * 3000)):
                for hold in (flips.two_hold, flips.four_hold, exchanges.exchange_holds, fallers.fallers_hold,
                             shears.shears_hold, squares.square_holds, symmetric.symmetric_hold,
                             lambda told_table, value: told.diagonal_holds(told_table, (1,) * 8, value),
                             lambda told_table, value: told.sum_holds(told_table, (1,) * 8, (0,) * 8, value),
                             lambda told_table, value: told.factors_hold(told_table, (1,) * 8, (1,) * 8, value)):
                    self.assertIs(self.run_it(hold, table, thing), False)
                if p > 2:
                    self.assertIs(self.run_it(fallers.at_once_holds, table, thing), False)
                for hold in (parts.alike_holds, goings.poly_holds):
                    self.assertIs(self.run_it(hold, table, table, thing), False)
                self.assertIs(self.run_it(folds.folds_hold, table, 3000, thing), False)


if __name__ == "__main__":
    unittest.main()

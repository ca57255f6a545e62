"""That no call takes long, and that each one gives the same again and leaves its arguments as they were."""

import copy
import random
import time
import unittest

from fewfolds import flips, folds, goings, parts
from kinds import companion_of, free_table, kinds, turned_by
from support import PRIMES, plain_one, plain_zero

# Far more than any call takes, in seconds of the processor.
MOST = 2

ONE = [parts.parts_of, parts.plain_form, parts.plain_base, goings.room_of, goings.base_of_room, goings.many_alike,
       folds.is_fold, folds.lost_by, folds.moved_by, folds.lost_rows, folds.still_rows, folds.fewest_folds,
       flips.is_flip, flips.turning_flip, flips.judge_two, flips.judge_four]
TWO = [parts.are_alike, parts.judge_alike, goings.does_go_with, goings.judge_poly]


class Time(unittest.TestCase):
    def run_it(self, call, *args):
        before = copy.deepcopy(args)
        start = time.process_time()
        found = call(*args)
        self.assertLess(time.process_time() - start, MOST, (call, args))
        self.assertEqual(repr(args), repr(before))
        return found

    def test_size_8_of_all_kinds(self):
        rng = random.Random(191)
        for p in PRIMES:
            for table in kinds(rng, p, 8):
                other = turned_by(table, free_table(rng, p, 8))
                for call in ONE:
                    self.assertEqual(self.run_it(call, table), call(table))
                for call in TWO:
                    self.run_it(call, table, other)
                    self.run_it(call, table, free_table(rng, p, 8))
                self.run_it(parts.alike_holds, table, other, parts.judge_alike(table, other))
                self.run_it(goings.poly_holds, table, other, goings.judge_poly(table, other))
                for k in (0, 1, 2, 12):
                    thing = self.run_it(folds.judge_folds, table, k)
                    self.run_it(folds.folds_hold, table, k, thing)
                self.run_it(flips.two_hold, table, flips.judge_two(table))
                self.run_it(flips.four_hold, table, flips.judge_four(table))

    def test_long_polynomials_in_certificates(self):
        for p in PRIMES:
            table, other = plain_zero(p, 8), plain_one(p, 8)
            for poly in ((1,) * 60, (1,) * 59, (p - 1, p - 1) + (0,) * 57 + (1,), (1, 1) + (0,) * 57 + (1,)):
                for k in (1, 8):
                    self.run_it(parts.alike_holds, table, other, ("ranks", poly, k))
                    self.run_it(flips.two_hold, companion_of(p, (1,) * 9), ("apart", poly, k))
                self.run_it(goings.poly_holds, table, other, ("poly", poly))

    def test_great_values(self):
        row = (0,) * 3000
        for p in PRIMES:
            table = plain_one(p, 8)
            for thing in (row, ("folds", row), ("bar", row, row), ("flips", row, row), ("poly", row), ("lost", row),
                          ("alike", (p, (row,) * 1)), ("ranks", row, 1), ("bar", tuple(range(1500)), (0,))):
                for hold in (flips.two_hold, flips.four_hold):
                    self.assertIs(self.run_it(hold, table, thing), False)
                for hold in (parts.alike_holds, goings.poly_holds):
                    self.assertIs(self.run_it(hold, table, table, thing), False)
                self.assertIs(self.run_it(folds.folds_hold, table, 3000, thing), False)


if __name__ == "__main__":
    unittest.main()

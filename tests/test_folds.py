"""[4.1] to [4.3] and the interface of fewfolds/folds.py."""

import itertools
import random
import unittest

from fewfolds.errors import BadNumber, BadPrime, BadRow, BadTable
from fewfolds.folds import fewest_folds, fold_with, folds_hold, is_fold, judge_folds, lost_by, lost_rows, moved_by
from fewfolds.folds import still_rows
from kinds import SMALL_SIZES, all_tables, are_free_rows, companion_of, diagonal_table, free_table, lead, less, lost_of
from kinds import low_table, moved_of, product_of, random_fold, says_folds, tables_of_all_kinds, triangle, turned_by
from kinds import wrong_at_one_place
from support import HUGE, ODD_VALUES, PRIMES, any_value, plain_one, plain_product, plain_zero, random_table
from support import says_integer, says_numbers, spoiled

FALL = (2, ((0, 1), (0, 0)))


def plain_fewest(table):
    """The fewest folds, after the words of [4.2]."""
    lost, moved = lost_of(table), moved_of(table)
    return next((k for k in range(9) if k * lost >= moved), None)


def says_rows(p, thing):
    """Whether a value is a tuple of rows of one length from 1 to 8."""
    if type(thing) is not tuple or not all(says_numbers(p, row) and 1 <= len(row) <= 8 for row in thing):
        return False
    return len({len(row) for row in thing}) < 2


class Folds(unittest.TestCase):
    def test_small_ones(self):
        for p, n in SMALL_SIZES:
            for table in all_tables(p, n):
                self.assertIs(is_fold(table), plain_product(table, table) == table)

    def test_folds_and_others(self):
        rng = random.Random(141)
        for p in PRIMES:
            for n in range(1, 9):
                for table in (random_fold(rng, p, n), plain_one(p, n), plain_zero(p, n)):
                    self.assertIs(is_fold(table), True)
                fold = random_fold(rng, p, n)
                self.assertIs(is_fold(less(plain_one(p, n), fold)), True)
                for table in (free_table(rng, p, n), random_table(rng, p, n), less(plain_zero(p, n), fold)):
                    self.assertIs(is_fold(table), plain_product(table, table) == table)


class LostAndMoved(unittest.TestCase):
    def judge(self, table):
        p, rows = table
        n = len(rows)
        self.assertEqual([lost_by(table), moved_by(table)], [lost_of(table), moved_of(table)])
        lost, still = lost_rows(table), still_rows(table)
        self.assertEqual([len(lost), len(still)], [lost_of(table), n - moved_of(table)])
        for told in (lost, still):
            self.assertIs(type(told), tuple)
            self.assertTrue(all(says_numbers(p, row) and len(row) == n for row in told))
            self.assertTrue(are_free_rows(p, told))
        self.assertTrue(all(lead(row, table) == (0,) * n for row in lost))
        self.assertTrue(all(lead(row, table) == row for row in still))

    def test_all_kinds(self):
        for table in tables_of_all_kinds(142):
            self.judge(table)

    def test_all_small_ones(self):
        for p, n in SMALL_SIZES:
            for table in all_tables(p, n):
                self.judge(table)

    def test_one_and_zero(self):
        for p in PRIMES:
            for n in range(1, 9):
                self.assertEqual([lost_by(plain_one(p, n)), moved_by(plain_one(p, n))], [0, 0])
                self.assertEqual([lost_by(plain_zero(p, n)), moved_by(plain_zero(p, n))], [n, n])
                self.assertEqual([lost_rows(plain_one(p, n)), still_rows(plain_zero(p, n))], [(), ()])


class FoldWith(unittest.TestCase):
    def test_every_number_of_lost_rows(self):
        rng = random.Random(143)
        for p in PRIMES:
            for n in range(1, 9):
                for many in range(n + 1):
                    rows = free_table(rng, p, n)[1]
                    stay, lost = rows[:many], rows[many:]
                    found = fold_with(p, stay, lost)
                    self.assertEqual([found[0], len(found[1])], [p, n])
                    self.assertEqual(plain_product(found, found), found)
                    self.assertEqual([lead(row, found) for row in stay], list(stay))
                    self.assertEqual([lead(row, found) for row in lost], [(0,) * n] * (n - many))

    def test_one_and_zero(self):
        for p in PRIMES:
            for n in range(1, 9):
                units = plain_one(p, n)[1]
                self.assertEqual(fold_with(p, units, ()), plain_one(p, n))
                self.assertEqual(fold_with(p, (), units), plain_zero(p, n))
                self.assertEqual(fold_with(p, units[:1], units[1:]), diagonal_table(p, (1,) + (0,) * (n - 1)))

    def test_it_is_told_by_its_rows(self):
        rng = random.Random(144)
        for p in PRIMES:
            for n in range(1, 9):
                fold = random_fold(rng, p, n)
                self.assertEqual(fold_with(p, still_rows(fold), lost_rows(fold)), fold)

    def bad(self, p, stay, lost, thing):
        with self.assertRaises(BadRow) as caught:
            fold_with(p, stay, lost)
        self.assertEqual(repr(caught.exception.thing), repr(thing))

    def test_wrong_rows(self):
        wrong = [None, 1, "", [], [(1,)], (1,), ((),), ((), ()), ((2,),), ((-1,),), ((True,),), ((1, 0), (1,)),
                 ((1,), (1, 0)), ([1],), ((1,), None), ((0,) * 9,), ((1,) * 9,) * 9, ("1",), {}, ((1,), "1"), True,
                 (((1,),),), ((HUGE,),), (None, (1,)), ((0,) * 3000,), ((1, 0), [0, 1]), ((0, 1), (1, False))]
        for thing in wrong + ODD_VALUES:
            if says_rows(2, thing):
                continue
            for other in ((), ((1,),), ((1, 1),), ((1,), (1,)), None, ((2,),)):
                self.bad(2, thing, other, thing)
                if says_rows(2, other):
                    self.bad(2, other, thing, thing)

    def test_rows_that_do_not_fit(self):
        units = plain_one(3, 8)[1]
        for stay, lost in (((), ()), (((1, 0),), ()), ((), ((1, 0),)), (((1,),), ((1,),)), (((0,),), ()), ((), ((0,),)),
                           (((1,), (1,)), ()), (((1, 2),), ((2, 1),)), (((1, 0), (0, 1)), ((1, 1),)),
                           (((1, 0), (0, 1)), ((1,),)), (((1,),), ((1, 0),)), (((1, 0),), ((0, 0),)), (units, units[:1]),
                           (units[:7], ()), (units[:7], units[:1]), (units, units), (units * 99, ()), (((1,),) * 999, ()),
                           (((1, 0), (1, 0)), ()), ((), units[1:]), (((1, 0, 0), (0, 1, 0)), ((1, 1, 0),)),
                           (((1, 0),), ((0, 1, 0),)), (((1, 0, 0),), ((0, 1), (1, 0)))):
            self.bad(3, stay, lost, (stay, lost))

    def test_wrong_primes_first(self):
        for p in ODD_VALUES:
            for stay in (((1,),), None, ()):
                with self.assertRaises(BadPrime) as caught:
                    fold_with(p, stay, None)
                self.assertIs(caught.exception.thing, p)


class Fewest(unittest.TestCase):
    def test_all_kinds(self):
        found = set()
        for table in tables_of_all_kinds(145):
            self.assertEqual(fewest_folds(table), plain_fewest(table))
            found.add(plain_fewest(table))
        self.assertGreater(found, {None, 0, 1, 2, 3})

    def test_small_ones_by_products(self):
        for p, n in SMALL_SIZES:
            tables = all_tables(p, n)
            folds = [table for table in tables if plain_product(table, table) == table]
            reached, wanted = {plain_one(p, n)}, {}
            for k in range(5):
                for table in tables:
                    self.assertEqual(judge_folds(table, k)[0], "folds" if table in reached else "bar")
                    if table in reached:
                        wanted.setdefault(table, k)
                reached = {plain_product(table, fold) for table in reached for fold in folds}
            for table in tables:
                self.assertEqual(fewest_folds(table), wanted.get(table))

    def test_one_zero_and_long_falls(self):
        for p in PRIMES:
            for n in range(1, 9):
                self.assertEqual(fewest_folds(plain_one(p, n)), 0)
                self.assertEqual(fewest_folds(plain_zero(p, n)), 1)
                self.assertEqual(fewest_folds(companion_of(p, (0,) * n + (1,))), n)
                if p > 2:
                    self.assertIs(fewest_folds(diagonal_table(p, (p - 1,) * n)), None)


class Judged(unittest.TestCase):
    def judge(self, table, k):
        found = judge_folds(table, k)
        fewest = plain_fewest(table)
        self.assertEqual(found[0], "bar" if fewest is None or k < fewest else "folds")
        self.assertIs(says_folds(table, k, found), True, (table, k, found))
        self.assertIs(folds_hold(table, k, found), True)
        return found

    def test_all_kinds_by_every_k(self):
        rng = random.Random(146)
        for table in tables_of_all_kinds(147):
            fewest = plain_fewest(table)
            told = {0, 1, 2, 12} if fewest is None else {0, 1, max(0, fewest - 1), fewest, fewest + 1, 12}
            for k in told | {rng.randrange(13)}:
                self.judge(table, k)

    def test_each_rank_by_every_k(self):
        rng = random.Random(148)
        for p in PRIMES:
            for n in range(1, 9):
                for lost in range(n + 1):
                    table = low_table(rng, p, n, n - lost)
                    for k in range(0, 13) if rng.randrange(8) == 0 else (plain_fewest(table) or 0,):
                        self.judge(table, k)

    def test_falls_of_every_kind(self):
        # Triangles with 1 and 0 on the diagonal lose and move in all ways.
        rng = random.Random(149)
        for p in PRIMES:
            for n in range(1, 9):
                for _ in range(6):
                    table = triangle(rng, p, n, tuple(rng.choice((0, 1, 1)) for _ in range(n)))
                    table = turned_by(table, free_table(rng, p, n))
                    for k in {0, 1, plain_fewest(table) or 0, (plain_fewest(table) or 1) - 1, 12}:
                        self.judge(table, k)

    def test_all_of_size_2_and_3(self):
        for p, n in SMALL_SIZES:
            for table in all_tables(p, n):
                for k in range(5):
                    self.judge(table, k)

    def test_one(self):
        for p in PRIMES:
            for n in (1, 8):
                one = plain_one(p, n)
                for k in range(13):
                    self.assertEqual(len(self.judge(one, k)[1]), k)
                self.assertEqual(judge_folds(one, 0), ("folds", ()))

    def test_beyond_12(self):
        for p in PRIMES:
            for k in (13, 20, 100):
                self.judge(plain_zero(p, 2), k)
                self.judge((p, ((1, 1), (0, 1))), k)
            self.assertEqual(self.judge((p, ((1, 1), (0, 1))), HUGE)[0], "bar")

    def test_same_again(self):
        for table in tables_of_all_kinds(150)[::9]:
            self.assertEqual(repr(judge_folds(table, 3)), repr(judge_folds(table, 3)))


class Certificates(unittest.TestCase):
    def test_products_of_other_folds(self):
        rng = random.Random(151)
        for p in PRIMES:
            for n in range(1, 9):
                for k in (0, 1, 2, 3, 12):
                    folds = tuple(random_fold(rng, p, n) for _ in range(k))
                    table = product_of(p, n, folds)
                    self.assertIs(folds_hold(table, k, ("folds", folds)), True)
                    self.assertIs(folds_hold(table, k + 1, ("folds", folds)), False)
                    self.assertIs(folds_hold(table, k + 1, ("folds", folds + (plain_one(p, n),))), True)
                    self.assertIs(folds_hold(table, k + 1, ("folds", (plain_one(p, n),) + folds)), True)
                    self.assertIs(folds_hold(table, k, ("folds", list(folds))), False)
                    if k > 1:
                        turned = product_of(p, n, folds[::-1]) == table
                        self.assertIs(folds_hold(table, k, ("folds", folds[::-1])), turned)
                        self.assertIs(folds_hold(table, k - 1, ("folds", folds[1:])), product_of(p, n, folds[1:]) == table)

    def test_products_of_what_is_no_fold(self):
        rng = random.Random(152)
        for p in PRIMES:
            for n in range(1, 9):
                table = free_table(rng, p, n)
                self.assertIs(folds_hold(table, 1, ("folds", (table,))), table == plain_one(p, n))
                low = low_table(rng, p, n, n - 1)
                self.assertIs(folds_hold(low, 1, ("folds", (low,))), plain_product(low, low) == low)
                self.assertIs(folds_hold(low, 2, ("folds", (low, plain_one(p, n)))), plain_product(low, low) == low)

    def test_all_bars(self):
        rng = random.Random(153)
        found = {True: 0, False: 0}
        for p in PRIMES:
            for n in (1, 2, 3, 4):
                subsets = [told for k in range(n + 1) for told in itertools.combinations(range(n), k)]
                for table in (random_table(rng, p, n), low_table(rng, p, n, n - 1), random_fold(rng, p, n),
                              free_table(rng, p, n), companion_of(p, (0,) * n + (1,))):
                    for k in (0, 1, 2, HUGE):
                        for kept, moved in itertools.product(subsets, repeat=2):
                            wanted = says_folds(table, k, ("bar", kept, moved))
                            self.assertIs(folds_hold(table, k, ("bar", kept, moved)), wanted)
                            found[wanted] += 1
        self.assertGreater(min(found.values()), 100)

    def test_bars_of_wrong_form(self):
        table = (5, ((1, 2, 0), (2, 4, 0), (0, 1, 1)))
        self.assertIs(folds_hold(table, 1, ("bar", (0, 2), (0, 1))), True)
        self.assertIs(folds_hold(table, 1, ("bar", (1, 2), (0, 2))), says_folds(table, 1, ("bar", (1, 2), (0, 2))))
        for kept in ((2, 0), (0, 0, 2), (0, 1), (0, 1, 2), [0, 2], (False, 2), (0, 3), (-1, 0), (0, -1), (0, 2, 5),
                     (0, "2"), (0, None), None, 0, "02", (0, (2,)), (0, HUGE), {0: 0, 2: 2}, ((0, 2),), (0, [2])):
            self.assertIs(folds_hold(table, 1, ("bar", kept, (0, 1))), False)
        for moved in ((1, 0), (0, 0), [0, 1], (False, 1), (0, True), (0, 3), (-1, 0), (0,), (), None, "01", (0, 1, 3)):
            self.assertIs(folds_hold(table, 1, ("bar", (0, 2), moved)), False)
        self.assertIs(folds_hold(table, 1, ("bar", (0, 2), (0, 1), ())), False)
        self.assertIs(folds_hold(table, 1, ("bar", (0, 2))), False)
        self.assertIs(folds_hold(table, 2, ("bar", (0, 2), (0, 1))), False)

    def test_wrong_at_one_place(self):
        rng = random.Random(154)
        for p in PRIMES:
            for n in (1, 2, 3):
                for table in (low_table(rng, p, n, n - 1), random_fold(rng, p, n), free_table(rng, p, n)):
                    for k in (0, 1, 2, 3):
                        for thing in wrong_at_one_place(judge_folds(table, k)):
                            self.assertIs(folds_hold(table, k, thing), says_folds(table, k, thing), thing)

    def test_any_values(self):
        rng = random.Random(155)
        for table in tables_of_all_kinds(156):
            k = rng.randrange(5)
            thing = judge_folds(table, k)
            for told in (spoiled(rng, thing), spoiled(rng, thing), any_value(rng), ("folds", any_value(rng)),
                         ("bar", any_value(rng), thing[-1]), ("bar", thing[1], any_value(rng))):
                self.assertIs(folds_hold(table, k, told), says_folds(table, k, told), told)
        for value in ODD_VALUES:
            for told in (value, ("folds", value), ("folds", (value,)), ("bar", value, (0, 1)), ("bar", (0,), value),
                         (value, ()), (value, (0,), (0, 1)), ("bar", (value,), (0, 1)), ("lost", value)):
                for k in (0, 1):
                    self.assertIs(folds_hold(FALL, k, told), says_folds(FALL, k, told))

    def test_tables_of_another_prime_or_size(self):
        for p in PRIMES:
            for fold in [plain_one(q, n) for q in PRIMES for n in (1, 2, 3, 8)]:
                for k in (1, 2):
                    told = ("folds", (plain_one(p, 2),) * (k - 1) + (fold,))
                    self.assertIs(folds_hold(plain_one(p, 2), k, told), fold == plain_one(p, 2))

    def test_many_folds(self):
        for p in PRIMES:
            one = plain_one(p, 1)
            self.assertIs(folds_hold(one, 700, ("folds", (one,) * 700)), True)
            self.assertIs(folds_hold(one, HUGE, ("folds", (one,) * 700)), False)


class Errors(unittest.TestCase):
    def test_wrong_tables_and_numbers(self):
        for value in ODD_VALUES:
            for call in (is_fold, lost_by, moved_by, lost_rows, still_rows, fewest_folds,
                         lambda table: judge_folds(table, None), lambda table: folds_hold(table, -1, None)):
                with self.assertRaises(BadTable) as caught:
                    call(value)
                self.assertIs(caught.exception.thing, value)
            if says_integer(value) and value >= 0:
                continue
            for call in (lambda k: judge_folds(FALL, k), lambda k: folds_hold(FALL, k, ("folds", ()))):
                with self.assertRaises(BadNumber) as caught:
                    call(value)
                self.assertIs(caught.exception.thing, value)


if __name__ == "__main__":
    unittest.main()

"""[0.3], over the whole program: a table, and it turned, two side by side, the undoing and the opposite."""

import random

from fewfolds.exchanges import exchange_holds, judge_exchange
from fewfolds.fallers import at_once_holds, fallers_hold, is_faller, judge_at_once, judge_fallers
from fewfolds.flips import four_hold, is_flip, judge_four, judge_two, turning_flip, two_hold
from fewfolds.folds import fewest_folds, folds_hold, is_fold, judge_folds, lost_by, moved_by
from fewfolds.goings import many_alike, room_of
from fewfolds.parts import are_alike, judge_alike, parts_of
from fewfolds.shears import fewest_shears, is_fold_beside_one, is_shear, judge_shears, shears_hold
from fewfolds.squares import is_square, judge_square, odd_order, square_holds
from fewfolds.symmetric import mirror_turning, symmetric_factors, symmetric_hold
from fewfolds.told import diagonal_holds, factors_hold, is_number, judge_diagonal, judge_factors, judge_sum, sum_holds
from kinds import block_table, free_table, is_prime_one, kinds, lost_of, moved_of, plain_determinant_of, power_ranks
from kinds import random_flip, random_fold, tables_of_all_kinds, triangle, turned_blocks, turned_by, undoing_of
from product_words import beside_one, fold_beside_one, free_symmetric, mirror_of, random_shear, says_fold_beside_one
from support import PRIMES, monic_polys, plain_one, plain_product, plain_zero, random_row
from words import PointCase, diagonal_of, falls, is_times_one, many_times, opposite, plus, sum_of

# What is told of a table alone, and is the same of each one that is alike to it.
TOLD = [is_fold, lost_by, moved_by, fewest_folds, is_flip, is_number, is_faller, is_shear, is_fold_beside_one,
        fewest_shears, is_square, odd_order, parts_of, room_of, many_alike]
# The kinds of certificates, likewise.
JUDGED = [judge_two, judge_four, judge_exchange, judge_fallers, judge_shears, judge_square]


def special_tables(rng, p, n):
    """Folds, flips, shears, fallers, second powers and the like."""
    return [random_fold(rng, p, n), random_flip(rng, p, n), fold_beside_one(rng, p, n, rng.randrange(n + 1)),
            turned_by(triangle(rng, p, n, (0,) * n), free_table(rng, p, n)),
            plain_product(*[turned_blocks(rng, p, n)] * 2), free_symmetric(rng, p, n),
            turned_by(triangle(rng, p, n, (1,) * n), free_table(rng, p, n)),
            random_shear(rng, p, n) if n > 1 else plain_one(p, n)]


def all_special(seed):
    rng = random.Random(seed)
    return [table for p in PRIMES for n in range(1, 9) for table in special_tables(rng, p, n)]


def pairs_side_by_side(seed, most=8):
    """Two tables of many kinds, and both along the diagonal of one table."""
    rng = random.Random(seed)
    for p in PRIMES:
        for n in range(1, most):
            m = rng.randrange(1, most + 1 - n)
            ones = kinds(rng, p, n)[::2] + special_tables(rng, p, n)
            others = kinds(rng, p, m)[::2] + special_tables(rng, p, m)
            rng.shuffle(others)
            for one, other in zip(ones, others):
                yield one, other, block_table(p, [one, other])


def side_by_side(ones, others):
    """Tables along the diagonal with as many other ones."""
    return tuple(block_table(one[0], [one, other]) for one, other in zip(ones, others))


class Turned(PointCase):
    def test_alike_tables(self):
        rng = random.Random(361)
        for table in tables_of_all_kinds(362)[::2] + all_special(363)[1::2] + all_special(364)[::4]:
            p, rows = table
            told = turned_by(table, free_table(rng, p, len(rows)))
            for call in TOLD:
                self.assertEqual(repr(call(told)), repr(call(table)), (call, table))
            for call in JUDGED + [judge_at_once] * (p > 2):
                self.assertEqual(call(told)[0], call(table)[0], (call, table))
            self.assertIs(are_alike(table, told), True)

    def test_what_is_told_turned_too(self):
        rng = random.Random(364)
        for table in tables_of_all_kinds(365)[::2] + all_special(366)[::2]:
            p, rows = table
            by = free_table(rng, p, len(rows))
            told = turned_by(table, by)
            for judge, hold in ((judge_two, two_hold), (judge_four, four_hold), (judge_exchange, exchange_holds),
                                (judge_fallers, fallers_hold), (judge_square, square_holds)):
                word, *found = judge(table)
                if word in ("flips", "exchange", "fallers", "root"):
                    self.assertIs(hold(told, (word, *[turned_by(one, by) for one in found])), True)
                elif word != "lost":
                    # A bar tells what is the same of all that are alike.
                    self.assertIs(hold(told, (word, *found)), True)
            word, found = judge_shears(table)
            if word == "shears":
                found = tuple(turned_by(shear, by) for shear in found)
            self.assertIs(shears_hold(told, (word, found)), True)
            fewest = fewest_folds(table)
            if fewest is not None:
                folds = tuple(turned_by(fold, by) for fold in judge_folds(table, fewest)[1])
                self.assertIs(folds_hold(told, fewest, ("folds", folds)), True)

    def test_alike_exactly_if_the_ranks_agree(self):
        rng = random.Random(367)
        for p, most in ((2, 5), (3, 4), (5, 3), (7, 3)):
            for n in range(1, most + 1):
                polys = [poly for degree in range(1, n + 1) for poly in monic_polys(p, degree) if is_prime_one(p, poly)]
                tables = [rng.choice(kinds(rng, p, n)) for _ in range(4)] + special_tables(rng, p, n)[:3]
                ranks = [[power_ranks(poly, table, n) for poly in polys] for table in tables]
                for one, first in zip(tables, ranks):
                    for other, second in zip(tables, ranks):
                        self.assertIs(are_alike(one, other), first == second)
                        self.assertEqual(judge_alike(one, other)[0], "alike" if first == second else "ranks")


class Guarantee(PointCase):
    def test_each_statement(self):
        rng = random.Random(368)
        for table in tables_of_all_kinds(369) + all_special(370):
            p, rows = table
            n = len(rows)
            lost, moved, number = lost_of(table), moved_of(table), plain_determinant_of(table)
            for k in (0, 1, 2, n):
                self.assertEqual(judge_folds(table, k)[0], "folds" if k * lost >= moved else "bar")
            back = undoing_of(table)
            two = back is not None and are_alike(table, back)
            self.assertEqual(judge_two(table)[0], "flips" if two else "lost" if back is None else "apart")
            self.assertEqual(judge_four(table)[0], "flips" if number in (1, p - 1) else "determinant")
            self.assertEqual(judge_exchange(table)[0], "sum" if sum_of(table) else "exchange")
            fewest = moved + says_fold_beside_one(table) if number == 1 else None
            self.assertEqual(fewest_shears(table), fewest)
            self.assertEqual(symmetric_factors(table)[0], "symmetric")
            if not is_times_one(table):
                numbers = random_row(rng, p, n - 1)
                numbers += ((sum_of(table) - sum(numbers)) % p,)
                self.assertEqual(judge_diagonal(table, numbers)[0], "turned")
                if back is not None:
                    ones = (1,) * n
                    self.assertEqual(judge_factors(table, (number,) + ones[1:], ones)[0], "factors")

    def test_what_is_made_of_few_is_judged_so(self):
        rng = random.Random(371)
        for p in PRIMES:
            for n in range(2, 9):
                one, other = random_fold(rng, p, n), random_fold(rng, p, n)
                self.assertLessEqual(fewest_folds(plain_product(one, other)), 2)
                first, second = random_flip(rng, p, n), random_flip(rng, p, n)
                self.assertEqual(judge_two(plain_product(first, second))[0], "flips")
                table = plain_product(random_shear(rng, p, n), random_shear(rng, p, n))
                self.assertLessEqual(fewest_shears(table), 2)
                self.assertIs(is_square(plain_product(one, one)), True)
                self.assertIs(is_square(plain_product(table, table)), True)


class SideBySide(PointCase):
    def test_what_is_lost_and_moved_is_added(self):
        for one, other, both in pairs_side_by_side(372):
            self.assertEqual(lost_by(both), lost_by(one) + lost_by(other))
            self.assertEqual(moved_by(both), moved_by(one) + moved_by(other))
            for call in (is_fold, is_flip, is_faller):
                self.assertIs(call(both), call(one) and call(other))
            orders = [odd_order(table) for table in (one, other, both)]
            self.assertEqual(orders[2] is None, orders[0] is None or orders[1] is None)
            if orders[2] is not None:
                self.assertEqual([orders[2] % orders[0], orders[2] % orders[1]], [0, 0])

    def accept(self, judge, hold, one, other, both, words):
        """What both are made of, side by side, is what both together are made of."""
        first, second = judge(one), judge(other)
        if first[0] in words and second[0] in words:
            thing = first[:1] + side_by_side(first[1:], second[1:])
            self.assertIs(hold(both, thing), True, (both, thing))
            self.assertIn(judge(both)[0], words)

    def test_what_both_are_made_of(self):
        for one, other, both in pairs_side_by_side(373):
            self.accept(judge_two, two_hold, one, other, both, ("flips",))
            self.accept(judge_four, four_hold, one, other, both, ("flips",))
            self.accept(judge_exchange, exchange_holds, one, other, both, ("exchange",))
            self.accept(judge_fallers, fallers_hold, one, other, both, ("fallers",))
            self.accept(judge_square, square_holds, one, other, both, ("root",))
            self.accept(symmetric_factors, symmetric_hold, one, other, both, ("symmetric",))
            if one[0] > 2:
                self.accept(judge_at_once, at_once_holds, one, other, both, ("at once",))

    def test_folds(self):
        for one, other, both in pairs_side_by_side(374):
            for k in (1, 2, 4, 8):
                first, second = judge_folds(one, k), judge_folds(other, k)
                if first[0] == second[0] == "folds":
                    self.assertIs(folds_hold(both, k, ("folds", side_by_side(first[1], second[1]))), True)
                if first[0] == second[0] == "bar":
                    n = len(one[1])
                    bar = ("bar", first[1] + tuple(n + at for at in second[1]),
                           first[2] + tuple(n + at for at in second[2]))
                    self.assertIs(folds_hold(both, k, bar), True)

    def test_shears(self):
        found = {True: 0, False: 0}
        for one, other, both in pairs_side_by_side(375):
            p, first, second = one[0], judge_shears(one), judge_shears(other)
            if first[0] == second[0] == "shears":
                shears = tuple(block_table(p, [shear, plain_one(p, len(other[1]))]) for shear in first[1])
                shears += tuple(block_table(p, [plain_one(p, len(one[1])), shear]) for shear in second[1])
                fewest = fewest_shears(both)
                self.assertEqual(fewest, moved_by(one) + moved_by(other) + says_fold_beside_one(both))
                found[len(shears) == fewest] += 1
                self.assertIs(shears_hold(both, ("shears", shears)), len(shears) == fewest)
        self.assertGreater(found[True], 20)

    def test_told_values(self):
        rng = random.Random(376)
        for one, other, both in pairs_side_by_side(377):
            p = one[0]
            tables = [turned_by(table, free_table(rng, p, len(table[1]))) for table in (one, other)]
            numbers = [diagonal_of(table) for table in tables]
            found = [judge_diagonal(table, told) for table, told in zip((one, other), numbers)]
            self.assertEqual([word for word, _ in found], ["turned", "turned"])
            thing = ("turned", block_table(p, [by for _, by in found]))
            self.assertIs(diagonal_holds(both, numbers[0] + numbers[1], thing), True)
            zeros = [(0,) * len(told) for told in numbers]
            found = [judge_sum(table, *told) for table, told in zip((one, other), zip(numbers, zeros))]
            if found[0][0] == found[1][0] == "parts":
                thing = ("parts",) + side_by_side(found[0][1:], found[1][1:])
                self.assertIs(sum_holds(both, numbers[0] + numbers[1], zeros[0] + zeros[1], thing), True)
            if lost_of(both) == 0:
                told = [((plain_determinant_of(table),) + (1,) * (len(table[1]) - 1), (1,) * len(table[1]))
                        for table in (one, other)]
                found = [judge_factors(table, *pair) for table, pair in zip((one, other), told)]
                if found[0][0] == found[1][0] == "factors":
                    thing = ("factors",) + side_by_side(found[0][1:], found[1][1:])
                    self.assertIs(factors_hold(both, told[0][0] + told[1][0], told[0][1] + told[1][1], thing), True)


class UndoingAndOpposite(PointCase):
    def test_undoing(self):
        for table in tables_of_all_kinds(378)[1::2] + all_special(379):
            back = undoing_of(table)
            if back is None:
                continue
            for call in (fewest_shears, is_shear, is_flip, is_square, odd_order, moved_by, is_number, room_of):
                self.assertEqual(call(back), call(table), (call, table))
            self.assertIs(is_fold_beside_one(back), is_fold_beside_one(table))
            word, *found = judge_two(table)
            self.assertEqual(judge_two(back)[0], word)
            if word == "flips":
                self.assertIs(two_hold(back, ("flips", *found[::-1])), True)
                flip = turning_flip(table)
                self.assertEqual(turned_by(table, flip), back)
                self.assertEqual(turned_by(back, flip), table)
            word, *found = judge_four(table)
            if word == "flips":
                self.assertIs(four_hold(back, ("flips", *found[::-1])), True)
            word, found = judge_shears(table)
            if word == "shears":
                told = tuple(undoing_of(shear) for shear in found[::-1])
                self.assertIs(shears_hold(back, ("shears", told)), True)
            word, *found = judge_square(table)
            if word == "root":
                self.assertIs(square_holds(back, ("root", undoing_of(found[0]))), True)
            self.assertEqual(turned_by(back, mirror_turning(table)), mirror_of(back))

    def test_opposite(self):
        for table in tables_of_all_kinds(380) + all_special(381):
            p, _ = table
            minus = opposite(table)
            self.assertIs(is_faller(minus), falls(table))
            self.assertIs(is_flip(minus), is_flip(table))
            self.assertEqual([lost_by(minus), is_number(minus)], [lost_by(table), is_number(table)])
            word, *found = judge_exchange(table)
            if word == "exchange":
                self.assertIs(exchange_holds(minus, ("exchange", *found[::-1])), True)
            else:
                self.assertIs(exchange_holds(minus, ("sum", p - found[0])), True)
            word, *found = judge_fallers(table)
            self.assertEqual(judge_fallers(minus)[0], word)
            if word == "fallers":
                self.assertIs(fallers_hold(minus, ("fallers", *[opposite(told) for told in found])), True)
            else:
                self.assertIs(fallers_hold(minus, (word, p - found[0])), True)
            if p > 2:
                word, *found = judge_at_once(table)
                self.assertEqual(judge_at_once(minus)[0], word)
                if word == "at once":
                    self.assertIs(at_once_holds(minus, ("at once", *[opposite(told) for told in found])), True)
                else:
                    self.assertIs(at_once_holds(minus, (word, *found)), True)
            _, first, second = symmetric_factors(table)
            self.assertIs(symmetric_hold(minus, ("symmetric", opposite(first), second)), True)
            self.assertIs(symmetric_hold(minus, ("symmetric", first, opposite(second))), True)

    def test_one_less(self):
        # 1 less a fold is a fold, and leaves what the fold loses; 1 and a faller can be undone.
        rng = random.Random(382)
        for p in PRIMES:
            for n in range(1, 9):
                fold = random_fold(rng, p, n)
                less = opposite(beside_one(fold))
                self.assertIs(is_fold(less), True)
                self.assertEqual([n - lost_by(less), n - moved_by(less)], [moved_by(fold), lost_by(fold)])
                fall = turned_by(triangle(rng, p, n, (0,) * n), free_table(rng, p, n))
                table = plus(plain_one(p, n), fall)
                self.assertIsNotNone(undoing_of(table))
                self.assertEqual(fewest_shears(table), moved_of(table))
                self.assertEqual(is_square(table), p > 2 or is_square(fall))
                if p > 2:
                    # Twice a fold less 1 is a flip.
                    self.assertIs(is_flip(plus(many_times(fold, 2), opposite(plain_one(p, n)))), True)
                self.assertIs(is_faller(plain_zero(p, n)), True)

    def test_mirrors(self):
        for table in tables_of_all_kinds(383)[::2] + all_special(384)[::2]:
            mirror = mirror_of(table)
            self.assertIs(are_alike(table, mirror), True)
            for call in TOLD:
                self.assertEqual(repr(call(mirror)), repr(call(table)), (call, table))
            fewest = fewest_folds(table)
            if fewest is not None:
                folds = tuple(mirror_of(fold) for fold in judge_folds(table, fewest)[1][::-1])
                self.assertIs(folds_hold(mirror, fewest, ("folds", folds)), True)

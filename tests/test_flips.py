"""[5.1] to [5.3] and the interface of fewfolds/flips.py."""

import random
import unittest

from fewfolds.errors import BadTable
from fewfolds.flips import four_hold, is_flip, judge_four, judge_two, turning_flip, two_hold
from kinds import SMALL_SIZES, all_tables, block_table, companion_of, diagonal_table, free_table, kinds, low_table
from kinds import plain_determinant_of, poly_to, power_ranks, product_of, random_flip, rank_of, says_four, says_two
from kinds import some_polys, tables_of_all_kinds, triangle, turned_blocks, turned_by, undoing_of, wrong_at_one_place
from support import HUGE, ODD_VALUES, PRIMES, any_value, plain_one, plain_product, plain_zero, random_row, spoiled

A, C = (5, ((1, 2), (3, 4))), (5, ((0, 1), (4, 0)))


def fits_undoing(table):
    """Whether a table can be undone and is alike to its undoing: by the ranks at its small companions' polynomials."""
    back = undoing_of(table)
    return back is not None and all(
        power_ranks(poly, table, 8) == power_ranks(poly, back, 8) for poly in POLYS[table[0]])


# All monic polynomials that can divide the whole polynomial of a table of size 3 or less, prime or not.
POLYS = {p: [(k % p, 1) for k in range(p)] + [(k % p, k // p, 1) for k in range(p * p)] + [
    (k % p, k // p % p, k // p // p, 1) for k in range(p ** 3)] for p in PRIMES}


class Flips(unittest.TestCase):
    def test_small_ones(self):
        for p, n in SMALL_SIZES:
            for table in all_tables(p, n):
                self.assertIs(is_flip(table), plain_product(table, table) == plain_one(p, n))

    def test_flips_and_others(self):
        rng = random.Random(161)
        for p in PRIMES:
            for n in range(1, 9):
                self.assertIs(is_flip(random_flip(rng, p, n)), True)
                self.assertIs(is_flip(plain_one(p, n)), True)
                self.assertIs(is_flip(plain_zero(p, n)), False)
                for number in range(p):
                    self.assertIs(is_flip(diagonal_table(p, (number,) * n)), number in (1, p - 1))
                for table in kinds(rng, p, n):
                    self.assertIs(is_flip(table), plain_product(table, table) == plain_one(p, n))


class Turning(unittest.TestCase):
    def judge(self, table):
        """What is told is a flip that turns the table into its undoing; whether there is one."""
        found = turning_flip(table)
        if found is None:
            return False
        p, rows = table
        unit = plain_one(p, len(rows))
        self.assertEqual([found[0], len(found[1])], [p, len(rows)])
        self.assertEqual(plain_product(found, found), unit)
        self.assertEqual(plain_product(plain_product(plain_product(found, table), found), table), unit)
        return True

    def test_all_kinds(self):
        for table in tables_of_all_kinds(162):
            self.assertIs(self.judge(table), judge_two(table)[0] == "flips")

    def test_small_ones_by_all_flips(self):
        for p, n in SMALL_SIZES:
            unit = plain_one(p, n)
            flips = [flip for flip in all_tables(p, n) if plain_product(flip, flip) == unit]
            for table in all_tables(p, n):
                back = undoing_of(table)
                wanted = back is not None and any(turned_by(table, flip) == back for flip in flips)
                self.assertIs(self.judge(table), wanted)

    def test_none(self):
        for p in PRIMES:
            for n in range(1, 9):
                self.assertIs(turning_flip(plain_zero(p, n)), None)
        self.assertIs(turning_flip(A), None)
        self.assertIs(turning_flip((7, ((2,),))), None)


class Two(unittest.TestCase):
    def judge(self, table):
        found = judge_two(table)
        self.assertIs(says_two(table, found), True, (table, found))
        self.assertIs(two_hold(table, found), True)
        return found[0]

    def test_all_kinds(self):
        found = {}
        for table in tables_of_all_kinds(163):
            word = self.judge(table)
            found.setdefault(table[0], set()).add(word)
            if len(table[1]) < 4:
                self.assertIs(word == "flips", fits_undoing(table))
            self.assertIs(word == "lost", undoing_of(table) is None)
        # By 2 and of a size from 3 on, and by 3 too, there are tables that are not alike to their undoing.
        self.assertEqual(found, {p: {"flips", "lost", "apart"} for p in PRIMES})

    def test_products_of_two_flips(self):
        rng = random.Random(164)
        for p in PRIMES:
            for n in range(1, 9):
                for _ in range(4):
                    table = product_of(p, n, [random_flip(rng, p, n) for _ in range(2)])
                    self.assertEqual(self.judge(table), "flips")

    def test_small_ones_by_products(self):
        for p, n in SMALL_SIZES:
            unit = plain_one(p, n)
            flips = [flip for flip in all_tables(p, n) if plain_product(flip, flip) == unit]
            reached = {plain_product(one, other) for one in flips for other in flips}
            for table in all_tables(p, n):
                word = "flips" if table in reached else "lost" if undoing_of(table) is None else "apart"
                self.assertEqual(self.judge(table), word)

    def test_a_poly_and_its_mirror_beside_each_other(self):
        rng = random.Random(165)
        for p in PRIMES:
            for _ in range(12):
                poly = rng.choice([told for told in some_polys(rng, p) if told[0]])
                back = pow(poly[0], -1, p)
                mirror = tuple(x * back % p for x in poly[::-1])
                steps = rng.choice(((1,), (2,), (1, 1), (2, 1)))
                told = [poly_to(p, prime, step) for prime in (poly, mirror) for step in steps]
                if sum(len(part) - 1 for part in told) > 8:
                    continue
                table = block_table(p, [companion_of(p, part) for part in told])
                self.assertEqual(self.judge(turned_by(table, free_table(rng, p, len(table[1])))), "flips")

    def test_unlike_steps_of_a_poly_and_its_mirror(self):
        rng = random.Random(166)
        # 2 and 3 by 5, like 3 and 5 by 7, and x x x + x + 1 and its mirror by 2 are the inverses of each other.
        for p, one, other in ((5, (3, 1), (2, 1)), (7, (4, 1), (2, 1)), (2, (1, 1, 0, 1), (1, 0, 1, 1)),
                              (3, (2, 1, 0, 1), (2, 0, 2, 1))):
            degree = len(one) - 1
            for first, second, word in (((1,), (), "apart"), ((2,), (1, 1), "apart"), ((1,), (1,), "flips"),
                                        ((2, 1), (2, 1), "flips"), ((2,), (2,), "flips"), ((3, 1), (2, 2), "apart")):
                if degree * (sum(first) + sum(second)) > 8:
                    continue
                blocks = [poly_to(p, one, step) for step in first] + [poly_to(p, other, step) for step in second]
                table = block_table(p, [companion_of(p, poly) for poly in blocks])
                self.assertEqual(self.judge(turned_by(table, free_table(rng, p, len(table[1])))), word)

    def test_triangles_with_1_and_minus_1(self):
        rng = random.Random(167)
        for p in PRIMES:
            for n in range(1, 9):
                for _ in range(3):
                    table = triangle(rng, p, n, tuple(rng.choice((1, p - 1)) for _ in range(n)))
                    self.assertEqual(self.judge(turned_by(table, free_table(rng, p, n))), "flips")

    def test_numbers(self):
        for p in PRIMES:
            for n in range(1, 9):
                for number in range(p):
                    word = "lost" if number == 0 else "flips" if number in (1, p - 1) else "apart"
                    self.assertEqual(self.judge(diagonal_table(p, (number,) * n)), word)


class Four(unittest.TestCase):
    def judge(self, table):
        found = judge_four(table)
        self.assertIs(says_four(table, found), True, (table, found))
        self.assertIs(four_hold(table, found), True)
        fits = plain_determinant_of(table) in (1, table[0] - 1)
        self.assertEqual(found[0], "flips" if fits else "determinant")
        return found[0]

    def test_all_kinds(self):
        for table in tables_of_all_kinds(168):
            self.judge(table)

    def test_told_determinants(self):
        rng = random.Random(169)
        for p in PRIMES:
            for n in range(1, 9):
                for number in range(p):
                    table = free_table(rng, p, n)
                    back = pow(plain_determinant_of(table), -1, p)
                    table = plain_product(diagonal_table(p, (number * back,) + (1,) * (n - 1)), table)
                    self.assertEqual(self.judge(table), "flips" if number in (1, p - 1) else "determinant")

    def test_small_ones_by_products(self):
        for p, n in SMALL_SIZES:
            unit = plain_one(p, n)
            flips = [flip for flip in all_tables(p, n) if plain_product(flip, flip) == unit]
            two = {plain_product(one, other) for one in flips for other in flips}
            four = {plain_product(one, other) for one in two for other in two}
            for table in all_tables(p, n):
                self.assertEqual(self.judge(table), "flips" if table in four else "determinant")

    def test_numbers_times_1(self):
        for p in PRIMES:
            for n in range(1, 9):
                for number in range(p):
                    word = "flips" if pow(number, n, p) in (1, p - 1) else "determinant"
                    self.assertEqual(self.judge(diagonal_table(p, (number,) * n)), word)

    def test_numbers_times_1_but_for_little(self):
        rng = random.Random(170)
        for p in PRIMES:
            for n in range(2, 9):
                for number in range(1, p):
                    # All but one number of the diagonal are the same; or one number beside the diagonal is not 0.
                    last = pow(number, -(n - 1), p)
                    for sign in (1, -1):
                        table = diagonal_table(p, (number,) * (n - 1) + (sign * last,))
                        self.assertEqual(self.judge(turned_by(table, free_table(rng, p, n))), "flips")
                        self.assertEqual(self.judge(table), "flips")
                    rows = diagonal_table(p, (number,) * n)[1]
                    self.judge((p, rows[:-1] + ((1,) + rows[-1][1:],)))
                    self.judge((p, ((number,) + (0,) * (n - 2) + (1,),) + rows[1:]))

    def test_blocks(self):
        rng = random.Random(171)
        for p in PRIMES:
            for n in range(1, 9):
                for _ in range(6):
                    self.judge(turned_blocks(rng, p, n))


class Certificates(unittest.TestCase):
    def test_other_flips(self):
        rng = random.Random(172)
        for p in PRIMES:
            for n in range(1, 9):
                flips = [random_flip(rng, p, n) for _ in range(4)]
                one = plain_one(p, n)
                two, four = product_of(p, n, flips[:2]), product_of(p, n, flips)
                self.assertIs(two_hold(two, ("flips", *flips[:2])), True)
                self.assertIs(four_hold(four, ("flips", *flips)), True)
                self.assertIs(four_hold(two, ("flips", one, *flips[:2], one)), True)
                self.assertIs(four_hold(two, ("flips", *flips[:2])), False)
                self.assertIs(two_hold(four, ("flips", *flips)), False)
                for told in (flips[::-1], flips[1:] + flips[:1], flips[:3] + [one], [one] * 4, [four] + [one] * 3):
                    self.assertIs(four_hold(four, ("flips", *told)), says_four(four, ("flips", *told)))
                for told in (flips[1::-1], flips[:1] * 2, [two, one], flips[2:], [one, one]):
                    self.assertIs(two_hold(two, ("flips", *told)), says_two(two, ("flips", *told)))

    def test_products_of_what_is_no_flip(self):
        rng = random.Random(173)
        for p in PRIMES:
            for n in range(1, 9):
                one = plain_one(p, n)
                table = free_table(rng, p, n)
                flip = plain_product(table, table) == one
                self.assertIs(two_hold(table, ("flips", table, one)), flip)
                self.assertIs(two_hold(table, ("flips", one, table)), flip)
                self.assertIs(four_hold(table, ("flips", one, table, one, one)), flip)
                self.assertIs(two_hold(one, ("flips", table, undoing_of(table))), flip)

    def test_other_lost_rows(self):
        rng = random.Random(174)
        found = {True: 0, False: 0}
        for p in PRIMES:
            for n in range(1, 9):
                for table in (low_table(rng, p, n, n - 1), low_table(rng, p, n, 1), plain_zero(p, n),
                              free_table(rng, p, n)):
                    for row in [random_row(rng, p, n) for _ in range(4)] + [(0,) * n, (1,) * (n + 1), (p,) * n, [1] * n]:
                        wanted = says_two(table, ("lost", row))
                        self.assertIs(two_hold(table, ("lost", row)), wanted)
                        found[wanted] += 1
                    if rank_of(p, table[1]) < n:
                        row = judge_two(table)[1]
                        for number in range(p):
                            told = tuple(number * x % p for x in row)
                            self.assertIs(two_hold(table, ("lost", told)), number > 0)
        self.assertGreater(min(found.values()), 50)
        for row in ((False, 1), (True, 1), (0, True), [0, 1], (0, 1, 0), (1,), None, "01", ((0, 1),), (0, 3), (0, -1)):
            self.assertIs(two_hold((2, ((0, 1), (0, 0))), ("lost", row)), False)

    def test_other_polys_and_powers(self):
        rng = random.Random(175)
        found = {True: 0, False: 0}
        for p in PRIMES:
            for n in range(1, 9):
                for table in (turned_blocks(rng, p, n), free_table(rng, p, n)):
                    for poly in POLYS[p][:30] + POLYS[p][p * p::p * p]:
                        for k in (0, 1, 2, 8, 9):
                            wanted = says_two(table, ("apart", poly, k))
                            self.assertIs(two_hold(table, ("apart", poly, k)), wanted)
                            found[wanted] += 1
        self.assertGreater(min(found.values()), 50)

    def test_what_cannot_be_undone_is_not_apart(self):
        for p in PRIMES:
            for n in range(1, 9):
                for poly in ((0, 1), (1, 1), (p - 1, 1)):
                    self.assertIs(two_hold(plain_zero(p, n), ("apart", poly, 1)), False)
                    self.assertIs(two_hold(diagonal_table(p, (0,) * (n - 1) + (1,)), ("apart", poly, 1)), False)

    def test_k_at_the_border(self):
        # The least power at which 2 and 3 by 5 differ here is the first one, the greatest one the 8th.
        table = companion_of(5, poly_to(5, (3, 1), 8))
        for k in range(-1, 11):
            self.assertIs(two_hold(table, ("apart", (3, 1), k)), 1 <= k <= 8)
            self.assertIs(two_hold(table, ("apart", (2, 1), k)), 1 <= k <= 8)
            self.assertIs(two_hold(table, ("apart", (4, 1), k)), False)
        for k in (True, None, "1", (1,), [1], HUGE, -HUGE):
            self.assertIs(two_hold(table, ("apart", (3, 1), k)), False)
        for poly in ((3, 2), [3, 1], (3, True), (3, 1, 0), (4, 1, 1), (1,), (), (1,) * 60, (1,) * 61, None, "31", (8, 1)):
            self.assertIs(two_hold(table, ("apart", poly, 1)), False)

    def test_determinants(self):
        rng = random.Random(176)
        for p in PRIMES:
            for n in range(1, 9):
                for table in (free_table(rng, p, n), low_table(rng, p, n, n - 1), plain_one(p, n), plain_zero(p, n),
                              diagonal_table(p, (2,) + (1,) * (n - 1)), diagonal_table(p, (-1,) + (1,) * (n - 1))):
                    wanted = plain_determinant_of(table)
                    for number in list(range(-1, p + 2)) + [True, False, None, str(wanted), (wanted,), HUGE, wanted + p]:
                        right = type(number) is int and number == wanted and number not in (1, p - 1)
                        self.assertIs(four_hold(table, ("determinant", number)), right)
        self.assertIs(four_hold(plain_zero(2, 1), ("determinant", 0)), True)
        self.assertIs(four_hold(plain_zero(2, 1), ("determinant", False)), False)

    def test_wrong_at_one_place(self):
        rng = random.Random(177)
        for p in PRIMES:
            for n in (1, 2, 3):
                for table in (low_table(rng, p, n, n - 1), free_table(rng, p, n), turned_blocks(rng, p, n),
                              product_of(p, n, [random_flip(rng, p, n) for _ in range(2)])):
                    for thing in wrong_at_one_place(judge_two(table)):
                        self.assertIs(two_hold(table, thing), says_two(table, thing), thing)
                    for thing in wrong_at_one_place(judge_four(table)):
                        self.assertIs(four_hold(table, thing), says_four(table, thing), thing)

    def test_any_values(self):
        rng = random.Random(178)
        for table in tables_of_all_kinds(179):
            for judge, hold, says in ((judge_two, two_hold, says_two), (judge_four, four_hold, says_four)):
                thing = judge(table)
                for told in (spoiled(rng, thing), spoiled(rng, thing), any_value(rng), thing[:-1] + (any_value(rng),),
                             thing[:1] + (any_value(rng),) + thing[2:]):
                    self.assertIs(hold(table, told), says(table, told), told)
        one = plain_one(5, 2)
        for value in ODD_VALUES:
            for told in (value, ("flips", value, one), ("flips", C, value), ("lost", value), ("apart", value, 1),
                         ("apart", (3, 0, 1), value), (value, one, C), ("flips", value, one, one, C), (value, 3),
                         ("flips", one, one, C, value), ("determinant", value), (value, one, one, one, C)):
                for table in (A, C):
                    self.assertIs(two_hold(table, told), says_two(table, told))
                    self.assertIs(four_hold(table, told), says_four(table, told))

    def test_tables_of_another_prime_or_size(self):
        for p in PRIMES:
            one = plain_one(p, 2)
            for flip in [plain_one(q, n) for q in PRIMES for n in (1, 2, 3, 8)]:
                self.assertIs(two_hold(one, ("flips", one, flip)), flip == one)
                self.assertIs(two_hold(one, ("flips", flip, one)), flip == one)
                self.assertIs(four_hold(one, ("flips", one, one, flip, one)), flip == one)

    def test_same_again(self):
        for table in tables_of_all_kinds(180)[::9]:
            for call in (turning_flip, judge_two, judge_four):
                self.assertEqual(repr(call(table)), repr(call(table)))


class Errors(unittest.TestCase):
    def test_wrong_tables(self):
        for value in ODD_VALUES:
            for call in (is_flip, turning_flip, judge_two, judge_four, lambda table: two_hold(table, ("lost", (1,))),
                         lambda table: four_hold(table, None)):
                with self.assertRaises(BadTable) as caught:
                    call(value)
                self.assertIs(caught.exception.thing, value)


if __name__ == "__main__":
    unittest.main()

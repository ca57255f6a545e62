"""[2.3] to [2.5] and the interface of fewfolds/parts.py."""

import itertools
import random
import unittest

from fewfolds.errors import BadPoly, BadPrime, BadTable, OtherTable
from fewfolds.parts import alike_holds, are_alike, companion, judge_alike, parts_of, plain_base, plain_form
from kinds import SMALL_SIZES, all_tables, are_free_rows, classes, companion_of, free_table, is_prime_one, lead
from kinds import poly_to, power_ranks, random_blocks, rank_of, says_alike, table_of_class, tables_of_all_kinds
from kinds import block_table, turned_by, turned_blocks, undoing_of, wrong_at_one_place
from support import HUGE, ODD_VALUES, PRIMES, any_value, plain_at_table, plain_one, plain_product
from support import plain_zero, random_poly, random_row, says_poly, spoiled

A = (5, ((1, 2), (3, 4)))
EIGHT = (((0, 1), (2, 1)), ((1, 1, 1), (2,)), ((1, 1), (1,)))


def free_tables(p, n):
    return [table for table in all_tables(p, n) if undoing_of(table) is not None]


class Parts(unittest.TestCase):
    def judge(self, table):
        """The parts are as the words of [2.3] say: for each power of each prime polynomial the rank fits."""
        p, rows = table
        parts = parts_of(table)
        self.assertIs(type(parts), tuple)
        self.assertEqual(list(parts), sorted(parts))
        total = 0
        for part in parts:
            self.assertTrue(type(part) is tuple and len(part) == 2)
            poly, steps = part
            self.assertTrue(says_poly(p, poly) and is_prime_one(p, poly))
            self.assertTrue(type(steps) is tuple and steps and all(type(step) is int and step > 0 for step in steps))
            self.assertEqual(list(steps), sorted(steps, reverse=True))
            degree = len(poly) - 1
            for k, rank in enumerate(power_ranks(poly, table, 9)):
                self.assertEqual(rank, len(rows) - degree * sum(min(k, step) for step in steps))
            total += degree * sum(steps)
        self.assertEqual(len({poly for poly, _ in parts}), len(parts))
        self.assertEqual(total, len(rows))

    def test_ranks(self):
        for table in tables_of_all_kinds(101):
            self.judge(table)

    def test_all_small_ones(self):
        for p, n in SMALL_SIZES:
            for table in all_tables(p, n):
                self.judge(table)

    def test_told_blocks(self):
        rng = random.Random(102)
        for p in PRIMES:
            for _ in range(25):
                n = rng.randrange(1, 9)
                told = rng.choice(classes(2, n)) if p == 2 else rng.choice(classes(p, min(n, 2)))
                table = table_of_class(p, told)
                table = turned_by(table, free_table(rng, p, len(table[1])))
                self.assertEqual(parts_of(table), tuple((poly, told[poly]) for poly in sorted(told)))

    def test_one_zero_and_long_falls(self):
        for p in PRIMES:
            for n in range(1, 9):
                self.assertEqual(parts_of(plain_zero(p, n)), (((0, 1), (1,) * n),))
                self.assertEqual(parts_of(plain_one(p, n)), (((p - 1, 1), (1,) * n),))
                self.assertEqual(parts_of(companion_of(p, (0,) * n + (1,))), (((0, 1), (n,)),))

    def test_three_prime_polys(self):
        blocks = [companion_of(2, poly_to(2, poly, step)) for poly, steps in EIGHT for step in steps]
        self.assertEqual(parts_of(block_table(2, blocks)), tuple(sorted(EIGHT)))


class Companions(unittest.TestCase):
    def test_all_degrees(self):
        rng = random.Random(103)
        for p in PRIMES:
            for degree in range(1, 9):
                for poly in [random_row(rng, p, degree) + (1,) for _ in range(4)] + [(0,) * degree + (1,)]:
                    found = companion(p, poly)
                    self.assertEqual(found, companion_of(p, poly))
                    self.assertEqual(plain_at_table(poly, found), plain_zero(p, degree))
                    units = plain_one(p, degree)[1]
                    self.assertEqual([lead(unit, found) for unit in units[:-1]], list(units[1:]))
                    self.assertEqual(lead(units[-1], found), tuple(-x % p for x in poly[:-1]))

    def test_wrong_polys(self):
        for p in PRIMES:
            wrong = [(), (1,), (p - 1,), (0,), (0, 0), (1, 0), (p, 1), (-1, 1), (True, 1), (1, True), [1, 1], None, "11",
                     1, (0,) * 9 + (1,), (1,) * 10, (1,) * 60, (1,) * 61, ((0, 1),), (HUGE, 1)]
            for poly in wrong + [(1, k) for k in range(2, p)] + ODD_VALUES:
                if says_poly(p, poly) and 2 <= len(poly) <= 9 and poly[-1] == 1:
                    continue
                with self.assertRaises(BadPoly) as caught:
                    companion(p, poly)
                self.assertIs(caught.exception.thing, poly)

    def test_wrong_primes_first(self):
        for p in ODD_VALUES:
            for poly in ((1, 1), (1,), None):
                with self.assertRaises(BadPrime) as caught:
                    companion(p, poly)
                self.assertIs(caught.exception.thing, p)


class PlainForms(unittest.TestCase):
    def judge(self, table):
        p, rows = table
        wanted = block_table(p, [companion_of(p, poly_to(p, poly, step))
                                 for poly, steps in parts_of(table) for step in steps])
        self.assertEqual(plain_form(table), wanted)
        base = plain_base(table)
        self.assertEqual([base[0], len(base[1])], [p, len(rows)])
        self.assertEqual(rank_of(p, base[1]), len(rows))
        self.assertEqual(turned_by(table, base), wanted)
        self.assertEqual(repr(plain_base(table)), repr(base))

    def test_all_kinds(self):
        for table in tables_of_all_kinds(104):
            self.judge(table)

    def test_all_small_ones(self):
        for p, n in SMALL_SIZES:
            for table in all_tables(p, n):
                self.judge(table)

    def test_all_classes(self):
        rng = random.Random(105)
        for p, n in ((2, 4), (2, 6), (3, 3)):
            for told in classes(p, n):
                plain = table_of_class(p, told)
                self.assertEqual(plain_form(plain), plain)
                self.judge(turned_by(plain, free_table(rng, p, n)))

    def test_many_steps_of_one_poly(self):
        rng = random.Random(106)
        for p in PRIMES:
            for poly, steps in (((0, 1), (4, 2, 2)), ((p - 1, 1), (3, 2, 1, 1, 1)), ((1, 1), (5, 3)), ((0, 1), (8,)),
                                ((0, 1), (1,) * 8), ((0, 1), (2, 2, 2, 1)), ((p - 1, 1), (6, 1, 1))):
                plain = table_of_class(p, {poly: steps})
                table = turned_by(plain, free_table(rng, p, len(plain[1])))
                self.assertEqual(plain_form(table), plain)
                self.judge(table)

    def test_many_steps_of_a_poly_of_degree_2(self):
        rng = random.Random(107)
        for p in PRIMES:
            poly = next(told for told in ((a, b, 1) for a in range(p) for b in range(p)) if is_prime_one(p, told))
            for steps in ((4,), (3, 1), (2, 2), (2, 1, 1), (1, 1, 1, 1), (2, 1), (1, 1)):
                plain = table_of_class(p, {poly: steps})
                self.judge(turned_by(plain, free_table(rng, p, len(plain[1]))))


class Alike(unittest.TestCase):
    def judge(self, one, other):
        found = judge_alike(one, other)
        alike = are_alike(one, other)
        self.assertIs(type(alike), bool)
        self.assertEqual(found[0], "alike" if alike else "ranks")
        self.assertIs(says_alike(one, other, found), True, (one, other, found))
        self.assertIs(alike_holds(one, other, found), True)
        return found[0]

    def test_turned_ones(self):
        rng = random.Random(108)
        for table in tables_of_all_kinds(109):
            other = turned_by(table, free_table(rng, table[0], len(table[1])))
            self.assertEqual(self.judge(table, other), "alike")
            if rng.randrange(8) == 0:
                self.assertEqual(self.judge(table, table), "alike")
                self.assertEqual(repr(judge_alike(table, other)), repr(judge_alike(table, other)))

    def test_both_kinds_come(self):
        rng = random.Random(110)
        words = set()
        for p in PRIMES:
            for n in range(1, 9):
                for _ in range(4):
                    words.add((p, self.judge(turned_blocks(rng, p, n), turned_blocks(rng, p, n))))
        self.assertEqual(words, {(p, word) for p in PRIMES for word in ("alike", "ranks")})

    def test_same_whole_poly_and_unlike_steps(self):
        rng = random.Random(111)
        for p in PRIMES:
            for one, other in (((2, 2), (3, 1)), ((1, 1), (2,)), ((2, 2, 1), (2, 1, 1, 1)), ((3, 3, 2), (4, 2, 2)),
                               ((8,), (7, 1)), ((4, 4), (4, 3, 1)), ((2, 2), (2, 1, 1))):
                for poly in ((0, 1), (p - 1, 1)):
                    first, second = table_of_class(p, {poly: one}), table_of_class(p, {poly: other})
                    second = turned_by(second, free_table(rng, p, len(second[1])))
                    self.assertEqual(self.judge(first, second), "ranks")

    def test_small_ones_against_all_turnings(self):
        for p, n in SMALL_SIZES:
            by = free_tables(p, n)
            tables = all_tables(p, n)
            if len(tables) > 80:
                tables = tables[::4 if n == 2 else 29]
            for one in tables:
                turned = {turned_by(one, told) for told in by}
                for other in tables:
                    self.assertIs(are_alike(one, other), other in turned)
                    self.judge(one, other)

    def test_classes_are_unlike(self):
        for p, n in ((2, 3), (3, 2), (5, 1), (7, 1)):
            tables = [table_of_class(p, told) for told in classes(p, n)]
            for one, other in itertools.product(tables, repeat=2):
                self.assertIs(are_alike(one, other), one == other)
                self.judge(one, other)


class Certificates(unittest.TestCase):
    def test_other_turnings(self):
        rng = random.Random(112)
        for table in tables_of_all_kinds(113):
            p, rows = table
            by = free_table(rng, p, len(rows))
            other = turned_by(table, by)
            self.assertIs(alike_holds(table, other, ("alike", by)), True)
            self.assertIs(alike_holds(other, table, ("alike", undoing_of(by))), True)
            # What goes with the table turns it to itself.
            going = plain_at_table(random_poly(rng, p, 3), table)
            if are_free_rows(p, going[1]):
                self.assertIs(alike_holds(table, other, ("alike", plain_product(by, going))), True)
            wrong = free_table(rng, p, len(rows))
            self.assertIs(alike_holds(table, other, ("alike", wrong)), turned_by(table, wrong) == other)

    def test_what_cannot_be_undone_turns_nothing(self):
        for p in PRIMES:
            for n in range(1, 9):
                zero = plain_zero(p, n)
                for by in (zero, (p, ((1,) * n,) * n)):
                    self.assertIs(alike_holds(zero, zero, ("alike", by)), n == 1 and by != zero)

    def test_other_polys_and_powers(self):
        rng = random.Random(114)
        found = {True: 0, False: 0}
        for p in PRIMES:
            for n in range(1, 9):
                polys = {told for told in itertools.chain(*[itertools.product(range(p), repeat=k) for k in (1, 2)])}
                one, other = turned_blocks(rng, p, n), turned_blocks(rng, p, n)
                for poly in sorted(polys)[:20]:
                    for k in range(-1, 11):
                        thing = ("ranks", poly + (1,), k)
                        wanted = says_alike(one, other, thing)
                        self.assertIs(alike_holds(one, other, thing), wanted)
                        found[wanted] += 1
        self.assertGreater(min(found.values()), 100)

    def test_k_and_poly_at_the_border(self):
        one, other = table_of_class(3, {(0, 1): (8,)}), table_of_class(3, {(0, 1): (7, 1)})
        for k in (1, 2, 3, 6, 7):
            self.assertIs(alike_holds(one, other, ("ranks", (0, 1), k)), True)
        for k in (0, 8, 9, -1, True, "1", None, (1,), HUGE):
            self.assertIs(alike_holds(one, other, ("ranks", (0, 1), k)), False)
        longer = companion_of(5, (0,) * 8 + (1,))
        self.assertIs(alike_holds(longer, plain_one(5, 8), ("ranks", (0, 1), 8)), True)
        self.assertIs(alike_holds(longer, plain_one(5, 8), ("ranks", (0, 1), 9)), False)
        for poly in ((0, 2), (0, 0, 1), (0, 1, 1), (), (1,), [0, 1], (False, 1), (0, True), (0, 1, 0), (3, 1), None):
            self.assertIs(alike_holds(one, other, ("ranks", poly, 1)), False)

    def test_long_polys(self):
        # A prime polynomial of a great degree is none of a table's: the ranks are alike.
        self.assertIs(alike_holds((2, ((0,),)), (2, ((1,),)), ("ranks", (1,) * 59, 1)), False)
        for p in PRIMES:
            for poly in ((1,) * 60, (0,) * 59 + (1,), (p - 1,) + (0,) * 58 + (1,), (1,) * 61):
                self.assertIs(alike_holds(plain_zero(p, 8), plain_one(p, 8), ("ranks", poly, 8)), False)

    def test_wrong_at_one_place(self):
        rng = random.Random(115)
        for p in PRIMES:
            for n in (1, 2, 3):
                table = turned_blocks(rng, p, n)
                for other in (turned_by(table, free_table(rng, p, n)), turned_blocks(rng, p, n)):
                    for thing in wrong_at_one_place(judge_alike(table, other)):
                        self.assertIs(alike_holds(table, other, thing), says_alike(table, other, thing), thing)

    def test_any_values(self):
        rng = random.Random(116)
        for table in tables_of_all_kinds(117):
            p, rows = table
            other = random_blocks(rng, p, len(rows))
            other = turned_by(block_table(p, [companion_of(p, poly) for poly in other]), free_table(rng, p, len(rows)))
            thing = judge_alike(table, other)
            for _ in range(4):
                for told in (spoiled(rng, thing), any_value(rng), ("alike", any_value(rng)),
                             ("ranks", any_value(rng), 1)):
                    self.assertIs(alike_holds(table, other, told), says_alike(table, other, told), told)
        for value in ODD_VALUES:
            for told in (value, ("alike", value), ("ranks", value, 1), ("ranks", (0, 1), value), ("apart", value),
                         (value, A), (value, (3, 0, 1), 1)):
                self.assertIs(alike_holds(A, A, told), says_alike(A, A, told))

    def test_tables_of_another_prime_or_size(self):
        for p in PRIMES:
            one = plain_one(p, 2)
            for by in [plain_one(q, n) for q in PRIMES for n in (1, 2, 3, 8)]:
                self.assertIs(alike_holds(one, one, ("alike", by)), by == one)
            self.assertIs(alike_holds(one, one, ("alike", one, one)), False)
            self.assertIs(alike_holds(one, one, ("alike",)), False)
            self.assertIs(alike_holds(one, one, ["alike", one]), False)


class Errors(unittest.TestCase):
    def test_order(self):
        other = (5, ((1,),))
        for call in (are_alike, judge_alike, lambda one, told: alike_holds(one, told, None)):
            for first, second, error, wrong in (
                    (None, None, BadTable, None), (A, None, BadTable, None), ([5], (5, ((5,),)), BadTable, [5]),
                    (A, other, OtherTable, other), (other, A, OtherTable, A), ((7, A[1]), A, OtherTable, A)):
                with self.assertRaises(error) as caught:
                    call(first, second)
                self.assertEqual(caught.exception.thing, wrong)

    def test_wrong_tables(self):
        for value in ODD_VALUES:
            for call in (parts_of, plain_form, plain_base):
                with self.assertRaises(BadTable) as caught:
                    call(value)
                self.assertIs(caught.exception.thing, value)


if __name__ == "__main__":
    unittest.main()

"""[3.1] to [3.3] and the interface of fewfolds/goings.py."""

import random
import unittest

from fewfolds.errors import BadTable, OtherTable
from fewfolds.goings import base_of_room, does_go_with, judge_poly, many_alike, poly_holds, room_of
from kinds import SMALL_SIZES, all_tables, are_free_rows, classes, companion_of, diagonal_table, free_table
from kinds import go_together, is_prime_one, kinds, says_through, table_of_class, tables_of_all_kinds, turned_blocks
from kinds import turned_by, undoing_of, wrong_at_one_place
from support import HUGE, ODD_VALUES, PRIMES, any_value, plain_at_table, plain_one, plain_zero, random_poly
from support import random_row, random_table, says_table, spoiled

A = (5, ((1, 2), (3, 4)))


def many_free(p, n):
    """How many tables can be undone: p ** n - p ** k rows can be the one at the position k."""
    found = 1
    for k in range(n):
        found *= p ** n - p ** k
    return found


class GoingWith(unittest.TestCase):
    def test_against_products(self):
        rng = random.Random(121)
        for table in tables_of_all_kinds(122):
            p, rows = table
            for other in (random_table(rng, p, len(rows)), plain_at_table(random_poly(rng, p, 4), table),
                          plain_one(p, len(rows)), plain_zero(p, len(rows)), turned_blocks(rng, p, len(rows))):
                found = does_go_with(table, other)
                self.assertIs(found, go_together(table, other))
                self.assertIs(does_go_with(other, table), found)

    def test_all_small_ones(self):
        for p, n in ((2, 1), (3, 1), (2, 2)):
            for one in all_tables(p, n):
                for other in all_tables(p, n):
                    self.assertIs(does_go_with(one, other), go_together(one, other))


class Rooms(unittest.TestCase):
    def judge(self, table):
        """The base is made of free tables that go with the table, as many as the room, which is as in [3.1]."""
        p, rows = table
        room, base = room_of(table), base_of_room(table)
        self.assertIs(type(room), int)
        self.assertIs(type(base), tuple)
        self.assertEqual(len(base), room)
        for told in base:
            self.assertTrue(says_table(told) and told[0] == p and len(told[1]) == len(rows))
            self.assertIs(go_together(table, told), True)
        self.assertTrue(are_free_rows(p, [sum(told[1], ()) for told in base]))
        return room

    def test_all_kinds(self):
        rng = random.Random(123)
        for p in PRIMES:
            for n in range(1, 9):
                for table in rng.sample(kinds(rng, p, n), 5):
                    self.judge(table)

    def test_small_ones_by_counting(self):
        for p, n in SMALL_SIZES:
            tables = all_tables(p, n)
            for table in tables if len(tables) < 100 else tables[::11]:
                self.assertEqual(p ** self.judge(table), sum(1 for other in tables if go_together(table, other)))

    def test_all_classes(self):
        rng = random.Random(124)
        for p, n in ((2, 4), (2, 5), (3, 3)):
            for told in classes(p, n):
                table = turned_by(table_of_class(p, told), free_table(rng, p, n))
                wanted = sum((len(poly) - 1) * sum(min(x, y) for x in steps for y in steps)
                             for poly, steps in told.items())
                self.assertEqual(self.judge(table), wanted)

    def test_numbers_and_long_falls(self):
        for p in PRIMES:
            for n in range(1, 9):
                for number in (0, 1, p - 1):
                    self.assertEqual(room_of(diagonal_table(p, (number,) * n)), n * n)
                self.assertEqual(room_of(companion_of(p, (1,) * n + (1,))), n)
                self.assertEqual(room_of(companion_of(p, (0,) * n + (1,))), n)
            self.judge(plain_zero(p, 8))
            self.judge(companion_of(p, (0,) * 8 + (1,)))

    def test_steps_of_unlike_length(self):
        for p in PRIMES:
            for poly, steps, wanted in (((0, 1), (5, 2, 1), 16), ((1, 1), (2, 2, 1), 13), ((0, 1), (3, 1), 6),
                                        ((p - 1, 1), (4, 2, 2), 20), ((1, 1), (7, 1), 10), ((0, 1), (6, 2), 12)):
                rng = random.Random(125)
                table = table_of_class(p, {poly: steps})
                self.assertEqual(self.judge(turned_by(table, free_table(rng, p, len(table[1])))), wanted)


class Polynomials(unittest.TestCase):
    def judge(self, table, other):
        found = judge_poly(table, other)
        self.assertIs(says_through(table, other, found), True, (table, other, found))
        self.assertIs(poly_holds(table, other, found), True)
        return found[0]

    def test_both_kinds_come(self):
        rng = random.Random(126)
        for table in tables_of_all_kinds(127):
            p, rows = table
            n = len(rows)
            if rng.randrange(3) == 0:
                self.assertEqual(self.judge(table, plain_at_table(random_poly(rng, p, rng.randrange(12)), table)), "poly")
                self.judge(table, random_table(rng, p, n))
                self.judge(table, turned_blocks(rng, p, n))
            if table != diagonal_table(p, (rows[0][0],) * n):
                self.assertEqual(self.judge(diagonal_table(p, (rng.randrange(p),) * n), table), "apart")

    def test_all_pairs_of_small_ones(self):
        for p, n in SMALL_SIZES:
            tables = all_tables(p, n)
            tables = tables if len(tables) < 80 else tables[::4 if n == 2 else 37]
            for table in tables:
                least = [plain_at_table(poly, table) for poly in self.low_polys(p, n)]
                for other in tables:
                    self.assertEqual(self.judge(table, other), "poly" if other in least else "apart")

    def low_polys(self, p, n):
        polys = [()]
        for _ in range(n):
            polys = [(x,) + poly for x in range(p) for poly in polys]
        return polys

    def test_what_goes_with_a_table_and_is_no_polynomial_of_it(self):
        rng = random.Random(128)
        for p in PRIMES:
            for n in (2, 3, 5, 8):
                for steps in ((1,) * n, (n - 1, 1)):
                    table = turned_by(table_of_class(p, {(0, 1): steps}), free_table(rng, p, n))
                    base = base_of_room(table)
                    words = [self.judge(table, other) for other in base[:6] + base[-6:]]
                    self.assertIn("apart", words)

    def test_one_zero_and_itself(self):
        for table in tables_of_all_kinds(129)[::5]:
            p, rows = table
            for other in (table, plain_one(p, len(rows)), plain_zero(p, len(rows)), plain_at_table((0, 0, 1), table)):
                self.assertEqual(self.judge(table, other), "poly")

    def test_a_table_that_only_polynomials_go_with(self):
        rng = random.Random(130)
        for p in PRIMES:
            for n in range(1, 9):
                table = turned_by(companion_of(p, random_row(rng, p, n) + (1,)), free_table(rng, p, n))
                for other in base_of_room(table):
                    self.assertEqual(self.judge(table, other), "poly")


class Certificates(unittest.TestCase):
    def test_other_polynomials(self):
        rng = random.Random(131)
        for table in tables_of_all_kinds(132)[::2]:
            p, rows = table
            for size in (0, 1, 2, 9, 20, 60):
                poly = random_poly(rng, p, size)
                self.assertIs(poly_holds(table, plain_at_table(poly, table), ("poly", poly)), True)
                other = random_table(rng, p, len(rows))
                self.assertIs(poly_holds(table, other, ("poly", poly)), plain_at_table(poly, table) == other)

    def test_polynomials_that_are_too_long_or_none(self):
        for p in PRIMES:
            zero = plain_zero(p, 3)
            fall = companion_of(p, (0, 0, 0, 1))
            for poly in ((), (0, 0, 0, 1), (0,) * 59 + (1,)):
                self.assertIs(poly_holds(fall, zero, ("poly", poly)), True)
            for poly in ((0,), (0, 0), (0, 0, 0, 1, 0), (0,) * 60 + (1,), [0, 0, 0, 1], [], None, "", 0, (0, 0, 0, p),
                         (False, 0, 0, 1), (0, 0, 0, True), (0, 0, 0, -p), (0, 0, 0, HUGE)):
                self.assertIs(poly_holds(fall, zero, ("poly", poly)), False)

    def test_other_tables_apart(self):
        rng = random.Random(133)
        found = {True: 0, False: 0}
        for p in PRIMES:
            for n in range(1, 9):
                table, other = turned_blocks(rng, p, n), turned_blocks(rng, p, n)
                told = list(base_of_room(table))[:9] + [random_table(rng, p, n), table, other, plain_one(p, n)]
                for by in told + [plain_at_table(random_poly(rng, p, 3), other)]:
                    wanted = says_through(table, other, ("apart", by))
                    self.assertIs(poly_holds(table, other, ("apart", by)), wanted)
                    found[wanted] += 1
        self.assertGreater(min(found.values()), 50)

    def test_wrong_at_one_place(self):
        rng = random.Random(134)
        for p in PRIMES:
            for n in (1, 2, 3):
                table = turned_blocks(rng, p, n)
                for other in (plain_at_table(random_poly(rng, p, 3), table), random_table(rng, p, n)):
                    for thing in wrong_at_one_place(judge_poly(table, other)):
                        self.assertIs(poly_holds(table, other, thing), says_through(table, other, thing), thing)

    def test_any_values(self):
        rng = random.Random(135)
        for table in tables_of_all_kinds(136)[::2]:
            p, rows = table
            other = rng.choice((plain_at_table(random_poly(rng, p, 3), table), random_table(rng, p, len(rows))))
            thing = judge_poly(table, other)
            for told in (spoiled(rng, thing), spoiled(rng, thing), any_value(rng), ("poly", any_value(rng)),
                         ("apart", any_value(rng))):
                self.assertIs(poly_holds(table, other, told), says_through(table, other, told), told)
        for value in ODD_VALUES:
            for told in (value, ("poly", value), ("apart", value), (value, (0, 1)), (value, A), ("poly", value, 1)):
                self.assertIs(poly_holds(A, A, told), says_through(A, A, told))

    def test_tables_of_another_prime_or_size(self):
        for p in PRIMES:
            one, fall = plain_one(p, 2), (p, ((0, 1), (0, 0)))
            for q in PRIMES:
                for by in ((q, ((0, 0), (1, 0))), (q, ((1,),)), (q, ((0, 0, 0), (1, 0, 0), (0, 0, 0)))):
                    self.assertIs(poly_holds(one, fall, ("apart", by)), q == p and len(by[1]) == 2)


class ManyAlike(unittest.TestCase):
    def test_small_ones_by_turning(self):
        for p, n in SMALL_SIZES:
            by = [table for table in all_tables(p, n) if undoing_of(table) is not None]
            tables = all_tables(p, n)
            for table in tables if len(tables) < 100 else tables[::13]:
                self.assertEqual(many_alike(table), len({turned_by(table, told) for told in by}))

    def test_all_classes_together_are_all_tables(self):
        for p, most in ((2, 7), (3, 4), (5, 3), (7, 2)):
            for n in range(1, most + 1):
                found = [many_alike(table_of_class(p, told)) for told in classes(p, n)]
                self.assertTrue(all(type(many) is int and many > 0 for many in found))
                self.assertEqual(sum(found), p ** (n * n))

    def test_numbers_and_companions(self):
        rng = random.Random(137)
        for p in PRIMES:
            for n in range(1, 9):
                for number in (0, 1, p - 1):
                    self.assertEqual(many_alike(diagonal_table(p, (number,) * n)), 1)
                # With a long fall go p ** n tables, and those of them can be undone that have no 0 at the power 0.
                fall = companion_of(p, (0,) * n + (1,))
                wanted = many_free(p, n) // (p ** n - p ** (n - 1))
                self.assertEqual(many_alike(turned_by(fall, free_table(rng, p, n))), wanted)
            # With a table of a prime polynomial of the degree n go, as with a number, all but 0.
            for n in (2, 3, 4):
                poly = next(told for told in self.monic(p, n) if is_prime_one(p, told))
                self.assertEqual(many_alike(companion_of(p, poly)), many_free(p, n) // (p ** n - 1))
                if n < 4:
                    wanted = many_free(p, 2 * n) // many_free(p ** n, 2)
                    self.assertEqual(many_alike(table_of_class(p, {poly: (1, 1)})), wanted)

    def monic(self, p, n):
        for k in range(p ** n):
            yield tuple(k // p ** at % p for at in range(n)) + (1,)

    def test_turned_ones(self):
        rng = random.Random(138)
        for table in tables_of_all_kinds(139)[::3]:
            self.assertEqual(many_alike(turned_by(table, free_table(rng, table[0], len(table[1])))), many_alike(table))

    def test_folds_of_each_rank(self):
        # A fold is told by what it keeps and what it loses.
        for p in PRIMES:
            for n in range(1, 9):
                for k in range(n + 1):
                    table = diagonal_table(p, (1,) * k + (0,) * (n - k))
                    self.assertEqual(many_alike(table), many_free(p, n) // many_free(p, k) // many_free(p, n - k))


class Errors(unittest.TestCase):
    def test_order(self):
        other = (5, ((1,),))
        for call in (does_go_with, judge_poly, lambda one, told: poly_holds(one, told, None)):
            for first, second, error, wrong in (
                    (None, None, BadTable, None), (A, None, BadTable, None), ([5], (5, ((5,),)), BadTable, [5]),
                    (A, other, OtherTable, other), (other, A, OtherTable, A), ((7, A[1]), A, OtherTable, A)):
                with self.assertRaises(error) as caught:
                    call(first, second)
                self.assertEqual(caught.exception.thing, wrong)

    def test_wrong_tables(self):
        for value in ODD_VALUES:
            for call in (room_of, base_of_room, many_alike):
                with self.assertRaises(BadTable) as caught:
                    call(value)
                self.assertIs(caught.exception.thing, value)


if __name__ == "__main__":
    unittest.main()

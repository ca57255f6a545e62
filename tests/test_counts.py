"""[12.1] and the interface of fewfolds/counts.py."""

import unittest

from fewfolds.counts import count_free, count_of, count_rank
from fewfolds.errors import BadNumber, BadPrime, BadWord
from kinds import all_tables, rank_of
from product_words import mirror_of
from support import HUGE, ODD_VALUES, PRIMES, plain_one, plain_product, plain_zero
from words import falls

WORDS = ("tables", "undoable", "folds", "flips", "fallers", "at once", "symmetric")
# All sizes that can be gone through table by table.
GONE_THROUGH = ((2, 1), (2, 2), (2, 3), (3, 1), (3, 2), (3, 3), (5, 1), (5, 2), (7, 1), (7, 2))


def many_free(p, n, k):
    """How many tuples of k rows of n numbers are free: each one is none of the sums of multiples of those ahead."""
    found = 1
    for at in range(k):
        found *= p ** n - p ** at
    return found


def many_rooms(p, n, k):
    """How many sets of sums of multiples of k free rows there are."""
    return many_free(p, n, k) // many_free(p, k, k)


class Counts(unittest.TestCase):
    def test_gone_through(self):
        for p, n in GONE_THROUGH:
            one, zero = plain_one(p, n), plain_zero(p, n)
            found = dict.fromkeys(WORDS, 0)
            ranks = [0] * (n + 1)
            for table in all_tables(p, n):
                twice = plain_product(table, table)
                rank = rank_of(p, table[1])
                ranks[rank] += 1
                found["tables"] += 1
                found["undoable"] += rank == n
                found["folds"] += twice == table
                found["flips"] += twice == one
                found["fallers"] += rank < n and falls(table)
                found["at once"] += twice == zero
                found["symmetric"] += table == mirror_of(table)
            self.assertEqual({word: count_of(word, p, n) for word in WORDS}, found)
            self.assertEqual([count_rank(p, n, r) for r in range(n + 1)], ranks)

    def test_size_4_by_2(self):
        # A table as four numbers from 0 to 15, each of them a row.
        found = dict.fromkeys(("undoable", "folds", "flips", "at once"), 0)
        for told in range(2 ** 16):
            rows = [told >> 4 * k & 15 for k in range(4)]
            sums = [0]
            for row in rows:
                sums += [one ^ row for one in sums]
            # The row at a number k of four bits is led to the sum of the rows at its bits.
            twice = [sums[row] for row in rows]
            found["undoable"] += len(set(sums)) == 16
            found["folds"] += twice == rows
            found["flips"] += twice == [1, 2, 4, 8]
            found["at once"] += twice == [0, 0, 0, 0]
        self.assertEqual({word: count_of(word, 2, 4) for word in found}, found)

    def test_free_rows_gone_through(self):
        for p, n in ((2, 1), (2, 2), (2, 3), (3, 1), (3, 2), (5, 2)):
            for k in range(n + 1):
                tuples = {table[1][:k] for table in all_tables(p, n)}
                self.assertEqual(count_free(p, n, k), sum(rank_of(p, rows) == k for rows in tuples))


class Together(unittest.TestCase):
    """What holds of the numbers together, for all sizes."""

    def all_sizes(self):
        return [(p, n) for p in PRIMES for n in range(1, 31)]

    def test_kinds_of_values(self):
        for p, n in self.all_sizes():
            told = [count_of(word, p, n) for word in WORDS]
            told += [count_rank(p, n, n), count_free(p, n, n), count_rank(p, n, 0), count_free(p, n, 0)]
            self.assertTrue(all(type(many) is int and many > 0 for many in told))

    def test_ranks(self):
        for p, n in self.all_sizes():
            every = [count_rank(p, n, r) for r in range(n + 1)]
            self.assertEqual(sum(every), count_of("tables", p, n))
            self.assertEqual(every[0], 1)
            self.assertEqual(every[n], count_of("undoable", p, n))
            for r, many in enumerate(every):
                # Where the table leads is told by free rows, and of as many free columns it is made.
                self.assertEqual(many, many_rooms(p, n, r) * many_free(p, n, r))

    def test_free_rows(self):
        for p, n in self.all_sizes():
            self.assertEqual([count_free(p, n, 0), count_free(p, n, 1)], [1, p ** n - 1])
            self.assertEqual(count_free(p, n, n), count_of("undoable", p, n))
            for k in range(n):
                self.assertEqual(count_free(p, n, k + 1), count_free(p, n, k) * (p ** n - p ** k))

    def test_tables_and_symmetric_ones(self):
        for p, n in self.all_sizes():
            self.assertEqual(count_of("tables", p, n), p ** (n * n))
            above = p ** (n * (n - 1) // 2)
            self.assertEqual(count_of("symmetric", p, n) * above, count_of("tables", p, n))

    def test_folds_and_flips(self):
        for p, n in self.all_sizes():
            # A fold is told by the rows that stay, and by free columns of numbers beside them for those that are lost.
            folds = sum(many_rooms(p, n, k) * p ** (k * (n - k)) for k in range(n + 1))
            self.assertEqual(count_of("folds", p, n), folds)
            self.assertEqual(count_of("flips", p, n), count_of("at once", p, n) if p == 2 else folds)

    def test_at_once(self):
        for p, n in self.all_sizes():
            # Told by the rows that are lost, and by free ones among them to which as many others are led.
            wanted = sum(many_rooms(p, n, k) * many_free(p, k, n - k) for k in range((n + 1) // 2, n + 1))
            self.assertEqual(count_of("at once", p, n), wanted)

    def test_fallers(self):
        for p, n in self.all_sizes():
            # Each table is one that can be undone beside a faller, on two rooms that make up all.
            free = [1] + [count_of("undoable", p, k) for k in range(1, n + 1)]
            falls_of = [1] + [count_of("fallers", p, k) for k in range(1, n + 1)]
            every = sum(free[n] // free[n - k] * falls_of[n - k] for k in range(n + 1))
            self.assertEqual(every, count_of("tables", p, n))

    def test_size_1(self):
        for p in PRIMES:
            told = {word: count_of(word, p, 1) for word in WORDS}
            self.assertEqual(told, {"tables": p, "undoable": p - 1, "folds": 2, "flips": 1 if p == 2 else 2,
                                    "fallers": 1, "at once": 1, "symmetric": p})


class Errors(unittest.TestCase):
    def raised(self, error, thing, call, *args):
        with self.assertRaises(error) as caught:
            call(*args)
        self.assertEqual(repr(caught.exception.thing), repr(thing))

    def test_words(self):
        for value in ODD_VALUES + ["table", "Tables", "at_once", "at once ", "", "undone", ("tables",), ["folds"]]:
            self.raised(BadWord, value, count_of, value, 2, 2)
            self.raised(BadWord, value, count_of, value, 4, 31)

    def test_primes(self):
        for value in ODD_VALUES:
            for word in WORDS:
                self.raised(BadPrime, value, count_of, word, value, 0)
            self.raised(BadPrime, value, count_rank, value, 0, -1)
            self.raised(BadPrime, value, count_free, value, 2, 2)

    def test_sizes(self):
        for value in [0, 31, -1, True, False, None, "2", (2,), [2], {}, HUGE, -HUGE]:
            for p in PRIMES:
                for word in WORDS:
                    self.raised(BadNumber, value, count_of, word, p, value)
                self.raised(BadNumber, value, count_rank, p, value, None)
                self.raised(BadNumber, value, count_free, p, value, 0)
        for n in (1, 30):
            self.assertGreater(count_of("tables", 7, n), 0)

    def test_third_numbers(self):
        for p in PRIMES:
            for n in (1, 2, 8, 9, 30):
                for call in (count_rank, count_free):
                    for value in [-1, n + 1, True, False, None, "0", (0,), [0], HUGE, -HUGE]:
                        self.raised(BadNumber, value, call, p, n, value)
                    for value in (0, 1, n):
                        self.assertGreater(call(p, n, value), 0)


if __name__ == "__main__":
    unittest.main()

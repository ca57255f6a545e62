"""The words of the parts 6 to 8 of the document, said a second time by plain ways, and what is tried on each point."""

import unittest

from kinds import are_free_rows, diagonal_table, less, plain_determinant_of, product_of, says_certificate, says_fellow
from kinds import says_unlike, turned_by, wrong_at_one_place
from support import ODD_VALUES, PRIMES, any_value, plain_one, plain_poly_product, plain_product, plain_zero
from support import says_integer, spoiled

# Plain arithmetic.


def plus(one, other):
    p, rows = one
    return p, tuple(tuple((x + y) % p for x, y in zip(a, b)) for a, b in zip(rows, other[1]))


def many_times(table, number):
    p, rows = table
    return p, tuple(tuple(number * x % p for x in row) for row in rows)


def exchanged(one, other):
    return less(plain_product(one, other), plain_product(other, one))


def sum_of(table):
    p, rows = table
    return sum(rows[k][k] for k in range(len(rows))) % p


def diagonal_of(table):
    return tuple(row[k] for k, row in enumerate(table[1]))


def whole_of(table):
    """The whole polynomial, by the sums of diagonals of whole numbers, of which each division leaves nothing."""
    p, rows = table
    n = len(rows)
    found = [0] * n + [1]
    made = [[int(i == k) for k in range(n)] for i in range(n)]
    for at in range(1, n + 1):
        made = [[sum(rows[i][j] * made[j][k] for j in range(n)) for k in range(n)] for i in range(n)]
        total = sum(made[k][k] for k in range(n))
        assert total % at == 0
        found[n - at] = -(total // at)
        for k in range(n):
            made[k][k] += found[n - at]
    return tuple(number % p for number in found)


def poly_of(p, numbers):
    """The product of all x - b for the numbers b."""
    found = (1,)
    for number in numbers:
        found = plain_poly_product(p, found, (-number % p, 1))
    return found


def is_times_one(table):
    p, rows = table
    return table == diagonal_table(p, (rows[0][0],) * len(rows))


def falls(table):
    p, rows = table
    return product_of(p, len(rows), [table] * len(rows)) == plain_zero(p, len(rows))


def falls_at_once(table):
    return plain_product(table, table) == plain_zero(table[0], len(table[1]))


def opposite(table):
    return many_times(table, table[0] - 1)


# The certificates, after the words of the document.


def says_two_fellows(table, thing):
    return says_fellow(table, thing[1]) and says_fellow(table, thing[2])


def says_sum_other_than(table, thing, total):
    return says_integer(thing[1]) and thing[1] == sum_of(table) and sum_of(table) != total


def says_number(table, thing):
    return is_times_one(table) and says_integer(thing[1]) and thing[1] == table[1][0][0]


def says_exchange(table, thing):
    if says_certificate(thing, "exchange", 3):
        return says_two_fellows(table, thing) and exchanged(thing[1], thing[2]) == table
    return says_certificate(thing, "sum", 2) and says_sum_other_than(table, thing, 0)


def says_diagonal(table, numbers, thing):
    if says_certificate(thing, "turned", 2):
        return says_fellow(table, thing[1]) and are_free_rows(table[0], thing[1][1]) and (
            diagonal_of(turned_by(table, thing[1])) == numbers)
    if says_certificate(thing, "sum", 2):
        return says_sum_other_than(table, thing, sum(numbers) % table[0])
    return says_certificate(thing, "number", 2) and says_number(table, thing) and any(
        number != thing[1] for number in numbers)


def says_values(table, thing, first, second):
    return says_two_fellows(table, thing) and (
        whole_of(thing[1]) == poly_of(table[0], first) and whole_of(thing[2]) == poly_of(table[0], second))


def worth_of(p, numbers):
    worth = 1
    for number in numbers:
        worth = worth * number % p
    return worth


def says_factors(table, first, second, thing):
    p, rows = table
    if says_certificate(thing, "factors", 3):
        return says_values(table, thing, first, second) and plain_product(thing[1], thing[2]) == table
    if says_certificate(thing, "determinant", 2):
        return says_integer(thing[1]) and thing[1] == plain_determinant_of(table) != worth_of(p, first + second)
    return says_certificate(thing, "number", 2) and says_number(table, thing) and sorted(
        rows[0][0] * pow(number, -1, p) % p for number in first) != sorted(second)


def says_sum(table, first, second, thing):
    p, rows = table
    if says_certificate(thing, "parts", 3):
        return says_values(table, thing, first, second) and plus(thing[1], thing[2]) == table
    if says_certificate(thing, "sum", 2):
        return says_sum_other_than(table, thing, sum(first + second) % p)
    return says_certificate(thing, "number", 2) and says_number(table, thing) and sorted(
        (rows[0][0] - number) % p for number in first) != sorted(second)


def says_fallers(table, thing):
    if says_certificate(thing, "fallers", 3):
        return says_two_fellows(table, thing) and falls(thing[1]) and falls(thing[2]) and (
            plus(thing[1], thing[2]) == table)
    if says_certificate(thing, "sum", 2):
        return says_sum_other_than(table, thing, 0)
    return says_certificate(thing, "number", 2) and says_number(table, thing) and thing[1] != 0


def says_at_once(table, thing):
    if says_certificate(thing, "at once", 3):
        return says_two_fellows(table, thing) and falls_at_once(thing[1]) and falls_at_once(thing[2]) and (
            plus(thing[1], thing[2]) == table)
    return says_certificate(thing, "apart", 3) and says_unlike(table, opposite(table), thing[1], thing[2])


# What is tried on each point.


class PointCase(unittest.TestCase):
    """A case for points with a function that tells certificates, one that holds them, and the words."""

    def told(self, judge, hold, says, *args):
        """A certificate that the one function tells is one after the words and for the other function."""
        found = judge(*args)
        self.assertIs(says(*args, found), True, (args, found))
        self.assertIs(hold(*args, found), True, (args, found))
        return found

    def compare(self, hold, says, *args):
        """Whether any value is a certificate: after the words and for the function; the value is the last one."""
        wanted = says(*args)
        self.assertIs(hold(*args), wanted, args)
        return wanted

    def compare_wrong_at_one_place(self, hold, says, thing, *args):
        for wrong in wrong_at_one_place(thing):
            self.compare(hold, says, *args, wrong)

    def compare_any_values(self, rng, hold, says, thing, *args):
        """A certificate that is spoilt, any values, and values of all kinds in the place of each of its items."""
        for value in [spoiled(rng, thing) for _ in range(4)] + [any_value(rng), list(thing), thing + thing[-1:]]:
            self.compare(hold, says, *args, value)
        for at in range(len(thing)):
            value = rng.choice(ODD_VALUES)
            for wrong in (value, any_value(rng)):
                self.compare(hold, says, *args, thing[:at] + (wrong,) + thing[at + 1:])

    def compare_odd_values(self, hold, says, words, *args):
        """Values of all kinds as certificates, and as items of certificates with these words and lengths."""
        one = plain_one(args[0][0], len(args[0][1]))
        for value in ODD_VALUES:
            self.compare(hold, says, *args, value)
            for word, size in words:
                self.compare(hold, says, *args, (word,) + (value,) * (size - 1))
                self.compare(hold, says, *args, (word, value) + (one,) * (size - 2))
                self.compare(hold, says, *args, (word,) + (one,) * (size - 2) + (value,))
                self.compare(hold, says, *args, (value,) + (one,) * (size - 1))

    def compare_other_tables(self, hold, says, thing, *args):
        """In the place of each table in a certificate the table 1 by each prime, of unlike sizes."""
        for at, part in enumerate(thing):
            if type(part) is tuple and len(part) == 2 and type(part[1]) is tuple:
                for q in PRIMES:
                    for n in (1, 2, 3, 8):
                        self.compare(hold, says, *args, thing[:at] + (plain_one(q, n),) + thing[at + 1:])
                wide = tuple(row + (0,) for row in part[1])
                listed = (list(part[1][0]),) + part[1][1:]
                for rows in (part[1] + part[1][:1], part[1][1:], wide, list(part[1]), listed):
                    self.compare(hold, says, *args, thing[:at] + ((part[0], rows),) + thing[at + 1:])

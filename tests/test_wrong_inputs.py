"""Wrong inputs for all functions: the named errors, in their order, and no other ones; names of parameters."""

import copy
import inspect
import itertools
import random
import re
import unittest

from fewfolds import flips, folds, goings, parts, polys, tables
from fewfolds.errors import TableError
from kinds import are_free_rows, free_table
from support import HUGE, ODD_VALUES, any_value, outcome, random_poly, random_row, random_table, says_fellows
from support import says_integer, says_numbers, says_poly, says_prime, says_size, says_table, spoiled, table_values

NO_TABLE, NO_FELLOW, NO_ROW, NO_NUMBER = "BadTable", "OtherTable", "BadRow", "BadNumber"
NO_PRIME, NO_POLY = "BadPrime", "BadPoly"


def wrong_table(table):
    return None if says_table(table) else (NO_TABLE, table)


def wrong_prime(p):
    return None if says_prime(p) else (NO_PRIME, p)


def wrong_fellows(one, other):
    return wrong_table(one) or wrong_table(other) or (None if says_fellows(one, other) else (NO_FELLOW, other))


def wrong_turned(table, by):
    wrong = wrong_fellows(table, by)
    if wrong is None and tables.determinant(by) == 0:
        return "Lost", None
    return wrong


def wrong_made(p, n):
    return wrong_prime(p) or (None if says_size(n) else (NO_NUMBER, n))


def wrong_times(table, number):
    return wrong_table(table) or (None if says_numbers(table[0], (number,)) else (NO_NUMBER, number))


def wrong_power(table, k):
    return wrong_table(table) or (None if says_integer(k) and k >= 0 else (NO_NUMBER, k))


def wrong_led(table, row):
    wrong = wrong_table(table)
    if wrong is None and not (says_numbers(table[0], row) and len(row) == len(table[1])):
        return NO_ROW, row
    return wrong


def wrong_poly_of(p, poly):
    return None if says_poly(p, poly) else (NO_POLY, poly)


def wrong_factors(p, poly):
    return wrong_prime(p) or wrong_poly_of(p, poly) or ((NO_POLY, poly) if poly == () else None)


def wrong_companion(p, poly):
    wrong = wrong_prime(p)
    if wrong is None and not (says_poly(p, poly) and 2 <= len(poly) <= 9 and poly[-1] == 1):
        return NO_POLY, poly
    return wrong


def wrong_many(table, k):
    return wrong_table(table) or (None if says_integer(k) and k >= 0 else (NO_NUMBER, k))


def wrong_rows(p, rows):
    right = type(rows) is tuple and all(says_numbers(p, row) and 1 <= len(row) <= 8 for row in rows)
    return None if right and len({len(row) for row in rows}) < 2 else (NO_ROW, rows)


def wrong_fold(p, stay, lost):
    wrong = wrong_prime(p) or wrong_rows(p, stay) or wrong_rows(p, lost)
    if wrong is None:
        rows = stay + lost
        if rows == () or any(len(row) != len(rows) for row in rows) or not are_free_rows(p, rows):
            return NO_ROW, (stay, lost)
    return wrong


# For each function its parameters, and what it raises first for wrong arguments, if anything.
FUNCTIONS = {
    tables.is_table: ("thing", lambda thing: None),
    tables.one: ("p n", wrong_made),
    tables.zero: ("p n", wrong_made),
    tables.product: ("one other", wrong_fellows),
    tables.added: ("one other", wrong_fellows),
    tables.taken: ("one other", wrong_fellows),
    tables.times: ("table number", wrong_times),
    tables.power: ("table k", wrong_power),
    tables.undone: ("table", wrong_table),
    tables.rank: ("table", wrong_table),
    tables.determinant: ("table", wrong_table),
    tables.diagonal_sum: ("table", wrong_table),
    tables.mirror: ("table", wrong_table),
    tables.led: ("table row", wrong_led),
    tables.turned: ("table by", wrong_turned),
    tables.text_of: ("table", wrong_table),
    polys.is_poly: ("p thing", lambda p, thing: wrong_prime(p)),
    polys.is_prime_poly: ("p thing", lambda p, thing: wrong_prime(p)),
    polys.poly_product: ("p one other", lambda p, one, other: (
        wrong_prime(p) or wrong_poly_of(p, one) or wrong_poly_of(p, other))),
    polys.poly_factors: ("p poly", wrong_factors),
    polys.at_table: ("poly table", lambda poly, table: wrong_table(table) or wrong_poly_of(table[0], poly)),
    polys.whole_poly: ("table", wrong_table),
    polys.least_poly: ("table", wrong_table),
    parts.parts_of: ("table", wrong_table),
    parts.companion: ("p poly", wrong_companion),
    parts.plain_form: ("table", wrong_table),
    parts.plain_base: ("table", wrong_table),
    parts.are_alike: ("one other", wrong_fellows),
    parts.judge_alike: ("one other", wrong_fellows),
    parts.alike_holds: ("one other thing", lambda one, other, thing: wrong_fellows(one, other)),
    goings.does_go_with: ("one other", wrong_fellows),
    goings.room_of: ("table", wrong_table),
    goings.base_of_room: ("table", wrong_table),
    goings.many_alike: ("table", wrong_table),
    goings.judge_poly: ("table other", wrong_fellows),
    goings.poly_holds: ("table other thing", lambda table, other, thing: wrong_fellows(table, other)),
    folds.is_fold: ("table", wrong_table),
    folds.lost_by: ("table", wrong_table),
    folds.moved_by: ("table", wrong_table),
    folds.lost_rows: ("table", wrong_table),
    folds.still_rows: ("table", wrong_table),
    folds.fold_with: ("p stay lost", wrong_fold),
    folds.fewest_folds: ("table", wrong_table),
    folds.judge_folds: ("table k", wrong_many),
    folds.folds_hold: ("table k thing", lambda table, k, thing: wrong_many(table, k)),
    flips.is_flip: ("table", wrong_table),
    flips.turning_flip: ("table", wrong_table),
    flips.judge_two: ("table", wrong_table),
    flips.two_hold: ("table thing", lambda table, thing: wrong_table(table)),
    flips.judge_four: ("table", wrong_table),
    flips.four_hold: ("table thing", lambda table, thing: wrong_table(table)),
}
# Beyond this no tuple of as many folds can be asked for.
MOST_FOLDS = 1000
FEW = [None, True, 0, 1, 2, 3, 5, 7, 9, -1, HUGE, "2", [2], {}, (), (0,), (1,), (1, 1), (4, 1), [0, 1], (True, 1),
       (0,) * 8, (1,) * 8, (1,) * 20, (1,) * 60, (1,) * 61, (5, ((1, 2), (3, 4))), (5, ((1, 2), (2, 4))),
       (5, ((1,),)), (3, ((1, 2), (2, 2))), (2, ((1, 0), (0, 2))), (True, ((1,),))]
VERY_FEW = [True, 2, 5, 9, "5", (), (1,), (0, 1), (0, 1, 0), (True,), [1, 1], (4, 1), (1,) * 60, (1,) * 61, None]
# Tables, tuples of rows and certificates, right ones and wrong ones, for the functions with three parameters.
TRIPLES = [-1, 0, 2, 5, HUGE, "alike", (), (0, 1), ((0, 1),), ((1, 1),), ((1, 0), (0, 1)), ((1, 0), (0, 5)),
           ((1,), (1, 0)), [(1, 0)], ((True, 0),), (5, ((1, 2), (3, 4))), (5, ((0, 1), (1, 0))), (5, ((1,),)),
           (2, ((0, 1), (1, 0))), (5, ((1, 2), (3, 5))), [5, ((1, 2), (3, 4))], ("alike", (5, ((1, 0), (0, 1)))),
           ("ranks", (0, 1), 1), ("poly", (0, 1)), ("folds", ()), ("bar", (0,), (0, 1)), None]

# What the interface lists.
LISTED = {
    "fewfolds.polys": set("is_poly is_prime_poly poly_product poly_factors at_table whole_poly least_poly".split()),
    "fewfolds.parts": set("parts_of companion plain_form plain_base are_alike judge_alike alike_holds".split()),
    "fewfolds.goings": set("does_go_with room_of base_of_room many_alike judge_poly poly_holds".split()),
    "fewfolds.folds": set("""is_fold lost_by moved_by lost_rows still_rows fold_with fewest_folds judge_folds
        folds_hold""".split()),
    "fewfolds.flips": set("is_flip turning_flip judge_two two_hold judge_four four_hold".split()),
}


class WrongInputs(unittest.TestCase):
    def compare(self, function, args):
        """One call against what the document says of it, and a second one against the first."""
        if function is folds.judge_folds and says_integer(args[1]) and args[1] > MOST_FOLDS and says_table(args[0]):
            return
        before = copy.deepcopy(args)
        expected = FUNCTIONS[function][1](*args)
        try:
            found = function(*args)
        except TableError as error:
            found = error
        if expected is None:
            self.assertNotIsInstance(found, TableError, (function, args))
        else:
            self.assertEqual(type(found).__name__, expected[0], (function, args))
        if re.match("(is|are)_|.*_hold", function.__name__) and expected is None:
            self.assertIs(type(found), bool)
        if expected is not None and expected[0] != "Lost":
            self.assertEqual(repr(found.thing), repr(expected[1]))
        self.assertEqual(repr(args), repr(before))
        self.assertEqual(outcome(function, *args), outcome(function, *args))

    def test_one_parameter(self):
        for function, (names, _) in FUNCTIONS.items():
            if len(names.split()) == 1:
                for value in ODD_VALUES + table_values():
                    self.compare(function, (value,))

    def test_two_parameters(self):
        pool = FEW + table_values()
        for function, (names, _) in FUNCTIONS.items():
            if len(names.split()) == 2:
                for first in pool:
                    for second in ODD_VALUES:
                        self.compare(function, (first, second))
                        self.compare(function, (second, first))
                    for second in pool:
                        self.compare(function, (first, second))

    def test_three_parameters(self):
        for p in VERY_FEW:
            for one in VERY_FEW:
                for other in VERY_FEW:
                    self.compare(polys.poly_product, (p, one, other))
        for value in ODD_VALUES:
            self.compare(polys.poly_product, (value, (1,), (1,)))
            self.compare(polys.poly_product, (3, value, (2, 1)))
            self.compare(polys.poly_product, (3, (2, 1), value))

    def test_three_parameters_of_all_kinds(self):
        for function, (names, _) in FUNCTIONS.items():
            if len(names.split()) == 3 and function is not polys.poly_product:
                for args in itertools.product(TRIPLES, repeat=3):
                    self.compare(function, args)
                right = (5, ((0, 1),), ((1, 0),)) if function is folds.fold_with else (TRIPLES[15], TRIPLES[16], None)
                right = (TRIPLES[15], 2, None) if function is folds.folds_hold else right
                for value in ODD_VALUES:
                    for other in ODD_VALUES[::7]:
                        self.compare(function, (value, other, right[2]))
                        self.compare(function, (right[0], value, other))
                        self.compare(function, (right[0], other, value))
                    self.compare(function, (right[0], right[1], value))
                    self.compare(function, (right[0], value, right[2]))
                    self.compare(function, (value, right[1], right[2]))

    def test_values_beside_right_ones(self):
        rng = random.Random(11)
        for function, (names, _) in FUNCTIONS.items():
            for _ in range(70):
                p, n = rng.choice((2, 3, 5, 7)), rng.randrange(1, 9)
                table = random_table(rng, p, n)
                poly = random_poly(rng, p, rng.randrange(8))
                rows, at = free_table(rng, p, n)[1], rng.randrange(n + 1)
                right = {"thing": rng.choice((table, poly)), "p": p, "n": n, "table": table, "poly": poly, "k": n,
                         "number": rng.randrange(p), "row": random_row(rng, p, n), "by": random_table(rng, p, n),
                         "stay": rows[:at], "lost": rows[at:]}
                right["one"], right["other"] = (poly, poly) if names == "p one other" else (table, right["by"])
                if function is parts.companion:
                    right["poly"] = random_row(rng, p, n) + (1,)
                args = tuple(right[name] for name in names.split())
                self.compare(function, args)
                self.compare(function, tuple(spoiled(rng, arg) if rng.randrange(2) else arg for arg in args))

    def test_any_values(self):
        rng = random.Random(12)
        for function, (names, _) in FUNCTIONS.items():
            for _ in range(300):
                self.compare(function, tuple(any_value(rng) for _ in names.split()))

    def test_names_of_parameters(self):
        for function, (names, _) in {**FUNCTIONS, tables.read_table: ("text", None)}.items():
            self.assertEqual(list(inspect.signature(function).parameters), names.split(), function)

    def test_by_name_as_by_position(self):
        table, other = (5, ((1, 2), (3, 4))), (5, ((0, 1), (1, 0)))
        told = {"thing": (1, 1), "p": 5, "n": 3, "table": table, "poly": (3, 0, 1), "k": 3, "number": 2,
                "row": (1, 3), "by": other, "stay": ((0, 1),), "lost": ((1, 1),)}
        for function, (names, _) in FUNCTIONS.items():
            right = dict(told)
            right["one"], right["other"] = ((1, 1), (4, 1)) if names == "p one other" else (table, other)
            args = {name: right[name] for name in names.split()}
            wanted = outcome(function, *args.values())
            self.assertFalse(wanted.startswith("raises"), function)
            self.assertEqual(outcome(function, **args), wanted)
            self.assertEqual(outcome(function, **dict(reversed(args.items()))), wanted)
        self.assertEqual(tables.read_table(text="table 2 1\n1"), (2, ((1,),)))

    def test_defined_where_they_are_listed(self):
        files = {"fewfolds." + name for name in ("tables", "polys", "parts", "goings", "folds", "flips")}
        self.assertEqual({function.__module__ for function in FUNCTIONS}, files)
        self.assertEqual(tables.read_table.__module__, "fewfolds.tables")
        for file in (polys, parts, goings, folds, flips):
            listed = {function.__name__ for function in FUNCTIONS if function.__module__ == file.__name__}
            self.assertEqual(LISTED[file.__name__], listed)


if __name__ == "__main__":
    unittest.main()

"""Wrong inputs for all functions: the named errors, in their order, and no other ones; names of parameters."""

import copy
import inspect
import itertools
import random
import re
import sys
import unittest

from fewfolds import counts, folds, parts, polys, tables, told
from fewfolds.errors import TableError
from interface import FUNCTIONS, LISTED
from kinds import free_table
from support import HUGE, ODD_VALUES, any_value, outcome, random_poly, random_row, random_table, says_integer
from support import says_table, spoiled, table_values

# Beyond this no tuple of as many folds can be asked for.
MOST_FOLDS = 1000
FEW = [None, True, 0, 1, 2, 3, 5, 7, 9, -1, HUGE, "2", [2], {}, (), (0,), (1,), (1, 1), (4, 1), [0, 1], (True, 1),
       (0,) * 8, (1,) * 8, (1,) * 20, (1,) * 60, (1,) * 61, (5, ((1, 2), (3, 4))), (5, ((1, 2), (2, 4))),
       (5, ((1,),)), (3, ((1, 2), (2, 2))), (2, ((1, 0), (0, 2))), (True, ((1,),))]
VERY_FEW = [True, 2, 5, 9, "5", (), (1,), (0, 1), (0, 1, 0), (True,), [1, 1], (4, 1), (1,) * 60, (1,) * 61, None]
# Tables, tuples of rows and certificates, right ones and wrong ones, for the functions with three parameters.
TRIPLES = [-1, 0, 2, 5, HUGE, "alike", (), (0, 1), ((0, 1),), ((1, 1),), ((1, 0), (0, 1)), ((1, 0), (0, 5)),
           ((1,), (1, 0)), [(1, 0)], ((True, 0),), (5, ((1, 2), (3, 4))), (5, ((0, 1), (1, 0))), (5, ((1,),)),
           (2, ((0, 1), (1, 0))), (5, ((1, 2), (3, 5))), [5, ((1, 2), (3, 4))], ("alike", (5, ((1, 0), (0, 1)))),
           ("ranks", (0, 1), 1), ("poly", (0, 1)), ("folds", ()), ("bar", (0,), (0, 1)), "folds", 1, True, 31, None]
# Fewer ones for those with four parameters.
FOURS = [None, 5, (), (1, 1), (1, 3), (0, 1), (True, 1), [1, 1], (1, 5), (1, 1, 1), (5, ((1, 2), (3, 4))),
         (5, ((1, 2), (2, 4))), (5, ((2, 0), (0, 2))), (5, [(1, 2), (3, 4)]), ("number", 2), ("determinant", 3)]

# Right arguments for the functions with three or four parameters.
A, B = (5, ((1, 2), (3, 4))), (5, ((0, 1), (1, 0)))
RIGHT = {
    folds.fold_with: (5, ((0, 1),), ((1, 0),)), folds.folds_hold: (A, 2, None), told.diagonal_holds: (A, (0, 0), None),
    told.judge_factors: (A, (1, 1), (1, 3)), told.judge_sum: (A, (1, 1), (1, 3)),
    told.factors_hold: (A, (1, 1), (1, 3), None), told.sum_holds: (A, (1, 1), (1, 3), None),
    counts.count_of: ("folds", 3, 8), counts.count_rank: (3, 8, 5), counts.count_free: (3, 8, 5),
}


class WrongInputs(unittest.TestCase):
    def compare(self, function, args):
        """One call against what the document says of it, and a second one against the first."""
        if function is folds.judge_folds and says_integer(args[1]) and args[1] > MOST_FOLDS and says_table(args[0]):
            return
        before = copy.deepcopy(args)
        expected = FUNCTIONS[function][1](*args)
        try:
            found = function(*args)
        except TableError as error:
            found = error
        if expected is None:
            self.assertNotIsInstance(found, TableError, (function, args))
        else:
            self.assertEqual(type(found).__name__, expected[0], (function, args))
        if re.match("(is|are)_|.*_hold", function.__name__) and expected is None:
            self.assertIs(type(found), bool)
        if expected is not None and expected[0] != "Lost":
            self.assertEqual(repr(found.thing), repr(expected[1]))
        self.assertEqual(repr(args), repr(before))
        self.assertEqual(outcome(function, *args), outcome(function, *args))

    def test_one_parameter(self):
        for function, (names, _) in FUNCTIONS.items():
            if len(names.split()) == 1:
                for value in ODD_VALUES + table_values():
                    self.compare(function, (value,))

    def test_two_parameters(self):
        pool = FEW + table_values()
        for function, (names, _) in FUNCTIONS.items():
            if len(names.split()) == 2:
                for first in pool:
                    for second in ODD_VALUES:
                        self.compare(function, (first, second))
                        self.compare(function, (second, first))
                    for second in pool:
                        self.compare(function, (first, second))

    def test_three_parameters(self):
        for p in VERY_FEW:
            for one in VERY_FEW:
                for other in VERY_FEW:
                    self.compare(polys.poly_product, (p, one, other))
        for value in ODD_VALUES:
            self.compare(polys.poly_product, (value, (1,), (1,)))
            self.compare(polys.poly_product, (3, value, (2, 1)))
            self.compare(polys.poly_product, (3, (2, 1), value))

    def test_three_parameters_of_all_kinds(self):
        for function, (names, _) in FUNCTIONS.items():
            if len(names.split()) == 3 and function is not polys.poly_product:
                for args in itertools.product(TRIPLES, repeat=3):
                    self.compare(function, args)
                self.compare_beside(function, RIGHT.get(function, (A, B, None)))

    def test_four_parameters(self):
        for function, (names, _) in FUNCTIONS.items():
            if len(names.split()) == 4:
                for args in itertools.product(FOURS, repeat=4):
                    self.compare(function, args)
                self.compare_beside(function, RIGHT[function])

    def compare_beside(self, function, right):
        """Values of all kinds in the place of one right argument, and of two."""
        places = range(len(right))
        for value in ODD_VALUES:
            for at in places:
                self.compare(function, right[:at] + (value,) + right[at + 1:])
            for other in ODD_VALUES[::7]:
                for first, second in itertools.permutations(places, 2):
                    args = list(right)
                    args[first], args[second] = value, other
                    self.compare(function, tuple(args))

    def test_values_beside_right_ones(self):
        rng = random.Random(11)
        for function, (names, _) in FUNCTIONS.items():
            for _ in range(70):
                p, n = rng.choice((2, 3, 5, 7)), rng.randrange(1, 9)
                table = random_table(rng, p, n)
                poly = random_poly(rng, p, rng.randrange(8))
                rows, at = free_table(rng, p, n)[1], rng.randrange(n + 1)
                right = {"thing": rng.choice((table, poly)), "p": p, "n": n, "table": table, "poly": poly, "k": n,
                         "number": rng.randrange(p), "row": random_row(rng, p, n), "by": random_table(rng, p, n),
                         "stay": rows[:at], "lost": rows[at:], "numbers": random_row(rng, p, n),
                         "first": random_row(rng, p, n), "second": random_row(rng, p, n), "r": rng.randrange(n + 1),
                         "word": rng.choice(("folds", "fallers", "at once", "flips", "undoable", "symmetric"))}
                right["one"], right["other"] = (poly, poly) if names == "p one other" else (table, right["by"])
                if function is parts.companion:
                    right["poly"] = random_row(rng, p, n) + (1,)
                args = tuple(right[name] for name in names.split())
                self.compare(function, args)
                self.compare(function, tuple(spoiled(rng, arg) if rng.randrange(2) else arg for arg in args))

    def test_any_values(self):
        rng = random.Random(12)
        for function, (names, _) in FUNCTIONS.items():
            for _ in range(300):
                self.compare(function, tuple(any_value(rng) for _ in names.split()))

    def test_names_of_parameters(self):
        for function, (names, _) in {**FUNCTIONS, tables.read_table: ("text", None)}.items():
            self.assertEqual(list(inspect.signature(function).parameters), names.split(), function)

    def test_by_name_as_by_position(self):
        table, other = (5, ((1, 2), (3, 4))), (5, ((0, 1), (1, 0)))
        told = {"thing": (1, 1), "p": 5, "n": 3, "table": table, "poly": (3, 0, 1), "k": 3, "number": 2,
                "row": (1, 3), "by": other, "stay": ((0, 1),), "lost": ((1, 1),), "numbers": (4, 1),
                "first": (1, 4), "second": (2, 1), "word": "folds", "r": 2}
        for function, (names, _) in FUNCTIONS.items():
            right = dict(told)
            right["one"], right["other"] = ((1, 1), (4, 1)) if names == "p one other" else (table, other)
            args = {name: right[name] for name in names.split()}
            wanted = outcome(function, *args.values())
            self.assertFalse(wanted.startswith("raises"), function)
            self.assertEqual(outcome(function, **args), wanted)
            self.assertEqual(outcome(function, **dict(reversed(args.items()))), wanted)
        self.assertEqual(tables.read_table(text="table 2 1\n1"), (2, ((1,),)))

    def test_defined_where_they_are_listed(self):
        self.assertEqual({function.__module__ for function in FUNCTIONS}, {"fewfolds.tables", *LISTED})
        self.assertEqual(tables.read_table.__module__, "fewfolds.tables")
        for name, wanted in LISTED.items():
            listed = {function.__name__ for function in FUNCTIONS if function.__module__ == name}
            self.assertEqual(listed, wanted)
            self.assertTrue(all(callable(vars(sys.modules[name])[word]) for word in wanted))


if __name__ == "__main__":
    unittest.main()

"""The examples of the document, as they stand there."""

import unittest

from support import outcome

import fewfolds.errors

# Copied from the document, one after another.
TABLES = r"""
>>> from fewfolds.tables import added, determinant, diagonal_sum, is_table, led, mirror, one, power, product, rank, read_table, text_of, times, turned, undone
>>> A = (5, ((1, 2), (3, 4)))
>>> B = (5, ((0, 1), (1, 0)))
>>> [product(A, B), added(A, B), times(A, 3), power(A, 2), undone(A), rank(A), determinant(A), diagonal_sum(A), mirror(A), led(A, (1, 1)), turned(A, B)]
[(5, ((2, 1), (4, 3))), (5, ((1, 3), (4, 4))), (5, ((3, 1), (4, 2))), (5, ((2, 0), (0, 2))), (5, ((3, 1), (4, 2))), 2, 3, 0, (5, ((1, 3), (2, 4))), (4, 1), (5, ((4, 3), (2, 1)))]
>>> [one(2, 2), is_table((5, ((1, 2), (3, 5)))), text_of(A), read_table('table 2 1\n1'), undone((5, ((1, 2), (2, 4))))]
[(2, ((1, 0), (0, 1))), False, 'table 5 2\n1 2\n3 4', (2, ((1,),)), None]
>>> read_table('table 5 2\n1 2')
raises BadText(3)
>>> product(A, (5, ((1,),)))
raises OtherTable((5, ((1,),)))
"""
PARTS = r"""
>>> from fewfolds.polys import at_table, is_prime_poly, least_poly, poly_factors, poly_product, whole_poly
>>> from fewfolds.parts import alike_holds, are_alike, companion, judge_alike, parts_of, plain_form
>>> A = (5, ((1, 2), (3, 4)))
>>> [whole_poly(A), least_poly(A), poly_product(5, (1, 1), (4, 1)), poly_factors(5, (3, 0, 1)), is_prime_poly(5, (3, 0, 1)), is_prime_poly(2, (1, 0, 1)), at_table((3, 0, 1), A)]
[(3, 0, 1), (3, 0, 1), (4, 0, 1), (((3, 0, 1), 1),), True, False, (5, ((0, 0), (0, 0)))]
>>> [parts_of(A), plain_form(A), parts_of((2, ((1, 1), (0, 1)))), parts_of((3, ((2, 0), (0, 2)))), companion(2, (1, 1, 1))]
[(((3, 0, 1), (1,)),), (5, ((0, 1), (2, 0))), (((1, 1), (2,)),), (((1, 1), (1, 1)),), (2, ((0, 1), (1, 1)))]
>>> [are_alike((2, ((1, 1), (0, 1))), (2, ((1, 0), (1, 1)))), judge_alike((2, ((1, 1), (0, 1))), (2, ((1, 0), (0, 1)))), alike_holds(A, plain_form(A), ('alike', (5, ((1, 0), (1, 2)))))]
[True, ('ranks', (1, 1), 1), True]
"""
GOINGS = r"""
>>> from fewfolds.goings import does_go_with, judge_poly, many_alike, poly_holds, room_of
>>> FALL = (2, ((0, 1), (0, 0)))
>>> [room_of(FALL), room_of((2, ((1, 0), (0, 1)))), many_alike(FALL), many_alike((2, ((1, 0), (0, 0)))), does_go_with(FALL, (2, ((1, 1), (0, 1))))]
[2, 4, 3, 6, True]
>>> [poly_holds(FALL, (2, ((1, 1), (0, 1))), ('poly', (1, 1))), judge_poly((2, ((1, 0), (0, 1))), FALL)[0]]
[True, 'apart']
"""
FOLDS = r"""
>>> from fewfolds.folds import fewest_folds, fold_with, folds_hold, is_fold, judge_folds, lost_by, lost_rows, moved_by, still_rows
>>> FALL = (2, ((0, 1), (0, 0)))
>>> P, Q = (2, ((1, 0), (0, 0))), (2, ((0, 1), (0, 1)))
>>> [is_fold(P), is_fold(Q), is_fold(FALL), lost_by(FALL), moved_by(FALL), lost_rows(FALL), still_rows(Q), fold_with(2, ((0, 1),), ((1, 1),)) == Q]
[True, True, False, 1, 2, ((0, 1),), ((0, 1),), True]
>>> [fewest_folds(FALL), fewest_folds((2, ((1, 0), (0, 1)))), fewest_folds((3, ((2, 0), (0, 2)))), fewest_folds(P), folds_hold(FALL, 2, ('folds', (P, Q))), folds_hold(FALL, 1, ('bar', (0,), (0, 1))), folds_hold(FALL, 2, ('bar', (0,), (0, 1)))]
[2, 0, None, 1, True, True, False]
>>> judge_folds((2, ((1, 0), (0, 1))), 0)
('folds', ())
>>> fold_with(2, ((0, 1),), ((0, 1),))
raises BadRow((((0, 1),), ((0, 1),)))
"""
FLIPS = r"""
>>> from fewfolds.flips import four_hold, is_flip, judge_four, judge_two, turning_flip, two_hold
>>> A, C = (5, ((1, 2), (3, 4))), (5, ((0, 1), (4, 0)))
>>> S, T, ONE = (5, ((0, 1), (1, 0))), (5, ((4, 0), (0, 1))), (5, ((1, 0), (0, 1)))
>>> [is_flip(S), is_flip(C), two_hold(C, ('flips', S, T)), two_hold(C, ('flips', T, S)), four_hold(C, ('flips', S, T, ONE, ONE)), judge_four(A), two_hold(A, ('apart', (3, 0, 1), 1)), turning_flip(A)]
[True, False, True, False, True, ('determinant', 3), True, None]
>>> [judge_two(A)[0], judge_two(C)[0], two_hold((2, ((0, 1), (0, 0))), ('lost', (0, 1))), judge_four((7, ((6,),)))[0]]
['apart', 'flips', True, 'flips']
"""
EXCHANGES = r"""
>>> from fewfolds.exchanges import exchange, exchange_holds, judge_exchange
>>> [exchange((2, ((0, 1), (0, 0))), (2, ((0, 0), (1, 0)))), judge_exchange((3, ((1, 0), (0, 1)))), judge_exchange((3, ((0, 1), (1, 0))))[0], exchange_holds((2, ((1, 0), (0, 1))), ('exchange', (2, ((0, 1), (0, 0))), (2, ((0, 0), (1, 0)))))]
[(2, ((1, 0), (0, 1))), ('sum', 2), 'exchange', True]
"""
TOLD = r"""
>>> from fewfolds.told import diagonal_holds, factors_hold, is_number, judge_diagonal, judge_factors, judge_sum
>>> A = (5, ((1, 2), (3, 4)))
>>> [judge_diagonal(A, (2, 2)), judge_diagonal((5, ((2, 0), (0, 2))), (1, 3)), diagonal_holds(A, (0, 0), ('turned', (5, ((1, 0), (1, 2))))), is_number((3, ((2, 0), (0, 2))))]
[('sum', 0), ('number', 2), True, True]
>>> [judge_factors(A, (1, 1), (1, 1)), judge_factors(A, (1, 1), (1, 3))[0], factors_hold(A, (1, 2), (1, 4), ('factors', (5, ((1, 0), (3, 3))), (5, ((1, 2), (0, 1))))), judge_sum(A, (0, 0), (0, 1))]
[('determinant', 3), 'factors', False, ('sum', 0)]
>>> judge_factors(A, (0, 1), (1, 1))
raises BadNumbers((0, 1))
"""
FALLERS = r"""
>>> from fewfolds.fallers import at_once_holds, fallers_hold, is_faller, judge_at_once, judge_fallers
>>> [is_faller((3, ((0, 2), (0, 0)))), judge_fallers((2, ((1, 0), (0, 1)))), judge_fallers((3, ((1, 0), (0, 0)))), fallers_hold((3, ((0, 2), (1, 0))), ('fallers', (3, ((0, 2), (0, 0))), (3, ((0, 0), (1, 0)))))]
[True, ('number', 1), ('sum', 1), True]
>>> [judge_at_once((3, ((1, 0), (0, 0))))[0], at_once_holds((3, ((0, 2), (1, 0))), ('at once', (3, ((0, 2), (0, 0))), (3, ((0, 0), (1, 0)))))]
['apart', True]
>>> judge_at_once((2, ((0,),)))
raises BadPrime(2)
"""
SHEARS = r"""
>>> from fewfolds.shears import fewest_shears, is_fold_beside_one, is_shear, judge_shears, shears_hold
>>> [is_shear((2, ((1, 1), (0, 1)))), fewest_shears((3, ((2, 0), (0, 2)))), is_fold_beside_one((3, ((2, 0), (0, 2)))), judge_shears((5, ((1, 2), (3, 4)))), judge_shears((2, ((1, 0), (0, 1))))]
[True, 3, True, ('determinant', 3), ('shears', ())]
>>> [fewest_shears((2, ((0, 1), (1, 1)))), shears_hold((2, ((0, 1), (1, 1))), ('shears', ((2, ((1, 0), (1, 1))), (2, ((1, 1), (0, 1))))))]
[2, False]
"""
SQUARES = r"""
>>> from fewfolds.squares import is_square, judge_square, odd_order, square_holds
>>> A, MINUS, FALL = (5, ((1, 2), (3, 4))), (3, ((2, 0), (0, 2))), (2, ((0, 1), (0, 0)))
>>> [judge_square(A), judge_square(FALL), is_square(MINUS), square_holds(MINUS, ('root', (3, ((0, 1), (2, 0))))), judge_square((3, ((2,),))), is_square((2, ((1, 1), (0, 1))))]
[('bar', (3, 0, 1), 0), ('bar', (0, 1), 0), True, True, ('bar', (1, 1), 0), False]
>>> [odd_order(MINUS), odd_order((3, ((1, 1), (0, 1)))), odd_order((2, ((0, 1), (1, 1)))), odd_order((5, ((0, 0), (0, 1)))), odd_order(FALL)]
[None, 3, 3, 1, None]
"""
SYMMETRIC = r"""
>>> from fewfolds.symmetric import symmetric_hold, is_symmetric, mirror_turning, symmetric_factors
>>> [is_symmetric((3, ((1, 2), (2, 0)))), symmetric_hold((2, ((0, 1), (0, 0))), ('symmetric', (2, ((0, 1), (1, 0))), (2, ((0, 0), (0, 1))))), symmetric_factors((7, ((3,),)))[0]]
[True, True, 'symmetric']
"""
COUNTS = r"""
>>> from fewfolds.counts import count_free, count_of, count_rank
>>> [[count_of(word, 2, 2) for word in ('tables', 'undoable', 'folds', 'flips', 'fallers', 'at once', 'symmetric')], count_rank(2, 2, 1), count_free(2, 2, 2), count_of('folds', 3, 3), count_of('fallers', 3, 3), count_of('at once', 3, 3)]
[[16, 6, 8, 4, 4, 4, 8], 9, 6, 236, 729, 105]
>>> count_of('folds', 4, 2)
raises BadPrime(4)
"""


def expected_outcome(line, names):
    """What an answer's line says, in the words of outcome."""
    if not line.startswith("raises "):
        return line
    error = eval(line.removeprefix("raises "), {**vars(fewfolds.errors), **names})
    return f"raises {type(error).__name__}{vars(error)!r}"


def run_examples(case, text):
    """Run examples, one after another; return how many answers were compared."""
    names = {}
    answers = 0
    lines = text.strip().split("\n")
    for at, line in enumerate(lines):
        if not line.startswith(">>> "):
            continue
        told = lines[at + 1] if at + 1 < len(lines) else ">>> "
        if told.startswith(">>> "):
            exec(line[4:], names)
            continue
        with case.subTest(line):
            case.assertEqual(outcome(eval, line[4:], names), expected_outcome(told, names))
        answers += 1
    return answers


class Examples(unittest.TestCase):
    def test_tables(self):
        self.assertEqual(run_examples(self, TABLES), 4)

    def test_polys_and_parts(self):
        self.assertEqual(run_examples(self, PARTS), 3)

    def test_goings(self):
        self.assertEqual(run_examples(self, GOINGS), 2)

    def test_folds(self):
        self.assertEqual(run_examples(self, FOLDS), 4)

    def test_flips(self):
        self.assertEqual(run_examples(self, FLIPS), 2)

    def test_exchanges(self):
        self.assertEqual(run_examples(self, EXCHANGES), 1)

    def test_told(self):
        self.assertEqual(run_examples(self, TOLD), 3)

    def test_fallers(self):
        self.assertEqual(run_examples(self, FALLERS), 3)

    def test_shears(self):
        self.assertEqual(run_examples(self, SHEARS), 2)

    def test_squares(self):
        self.assertEqual(run_examples(self, SQUARES), 2)

    def test_symmetric(self):
        self.assertEqual(run_examples(self, SYMMETRIC), 1)

    def test_counts(self):
        self.assertEqual(run_examples(self, COUNTS), 2)


if __name__ == "__main__":
    unittest.main()

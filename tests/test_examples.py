"""The examples of the document, as they stand there."""

import unittest

from support import outcome

import fewfolds.errors

# Copied from the parts 1 and 2; of part 2, what speaks of fewfolds/polys.py.
TABLES = r"""
>>> from fewfolds.tables import added, determinant, diagonal_sum, is_table, led, mirror, one, power, product, rank, read_table, text_of, times, turned, undone
>>> A = (5, ((1, 2), (3, 4)))
>>> B = (5, ((0, 1), (1, 0)))
>>> [product(A, B), added(A, B), times(A, 3), power(A, 2), undone(A), rank(A), determinant(A), diagonal_sum(A), mirror(A), led(A, (1, 1)), turned(A, B)]
[(5, ((2, 1), (4, 3))), (5, ((1, 3), (4, 4))), (5, ((3, 1), (4, 2))), (5, ((2, 0), (0, 2))), (5, ((3, 1), (4, 2))), 2, 3, 0, (5, ((1, 3), (2, 4))), (4, 1), (5, ((4, 3), (2, 1)))]
>>> [one(2, 2), is_table((5, ((1, 2), (3, 5)))), text_of(A), read_table('table 2 1\n1'), undone((5, ((1, 2), (2, 4))))]
[(2, ((1, 0), (0, 1))), False, 'table 5 2\n1 2\n3 4', (2, ((1,),)), None]
>>> read_table('table 5 2\n1 2')
raises BadText(3)
>>> product(A, (5, ((1,),)))
raises OtherTable((5, ((1,),)))
"""
POLYS = r"""
>>> from fewfolds.polys import at_table, is_prime_poly, least_poly, poly_factors, poly_product, whole_poly
>>> A = (5, ((1, 2), (3, 4)))
>>> [whole_poly(A), least_poly(A), poly_product(5, (1, 1), (4, 1)), poly_factors(5, (3, 0, 1)), is_prime_poly(5, (3, 0, 1)), is_prime_poly(2, (1, 0, 1)), at_table((3, 0, 1), A)]
[(3, 0, 1), (3, 0, 1), (4, 0, 1), (((3, 0, 1), 1),), True, False, (5, ((0, 0), (0, 0)))]
"""


def expected_outcome(line, names):
    """What an answer's line says, in the words of outcome."""
    if not line.startswith("raises "):
        return line
    error = eval(line.removeprefix("raises "), {**vars(fewfolds.errors), **names})
    return f"raises {type(error).__name__}{vars(error)!r}"


def run_examples(case, text):
    """Run examples, one after another; return how many answers were compared."""
    names = {}
    answers = 0
    lines = text.strip().split("\n")
    for at, line in enumerate(lines):
        if not line.startswith(">>> "):
            continue
        told = lines[at + 1] if at + 1 < len(lines) else ">>> "
        if told.startswith(">>> "):
            exec(line[4:], names)
            continue
        with case.subTest(line):
            case.assertEqual(outcome(eval, line[4:], names), expected_outcome(told, names))
        answers += 1
    return answers


class Examples(unittest.TestCase):
    def test_tables(self):
        self.assertEqual(run_examples(self, TABLES), 4)

    def test_polys(self):
        self.assertEqual(run_examples(self, POLYS), 1)


if __name__ == "__main__":
    unittest.main()

"""[1.4] and the functions text_of and read_table."""

import random
import unittest

from fewfolds.errors import BadTable, BadText
from fewfolds.tables import read_table, text_of
from support import HUGE, ODD_VALUES, PRIMES, random_tables

# Texts, each with the first line that is wrong or missing.
WRONG_TEXTS = [
    ("", 1), ("\n", 1), ("table", 1), ("table 5", 1), ("table 5 ", 1), ("table  5", 1), ("table 5 2", 2),
    ("table 5 2 ", 1), (" table 5 2", 1), ("table  5 2", 1), ("table 5  2", 1), ("table 5 2 2", 1), ("Table 5 2", 1),
    ("tables 5 2", 1), ("table\t5 2", 1), ("table +5 2", 1), ("table 05 2", 1), ("table 5 02", 1), ("table 5 +2", 1),
    ("table -5 2", 1), ("table 5 -2", 1), ("table 5 2\r", 1), ("5 2\n1 2\n3 4", 1), ("table 2 5\n1 2\n3 4", 2),
    ("table 0 1\n0", 1), ("table 1 1\n0", 1), ("table 4 1\n0", 1), ("table 6 1\n0", 1), ("table 8 1\n0", 1),
    ("table 9 1\n0", 1), ("table 11 1\n0", 1), ("table 23 1\n0", 1), ("table 57 1\n0", 1), ("table x 1\n0", 1),
    ("table 2 0", 1), ("table 2 0\n", 1), ("table 2 9\n" + "\n".join(["0 0 0 0 0 0 0 0 0"] * 9), 1),
    ("table 2 x\n0", 1), ("table 2 12\n0", 1), ("table True 1\n0", 1), ("table 2 1.0\n0", 1), ("table 5 2\n", 2),
    ("table 5 2\n1 2", 3), ("table 5 2\n1 2\n", 3), ("table 5 2\n1 2\n3 4\n", 4), ("table 5 2\n1 2\n3 4\n\n", 4),
    ("table 5 2\n1 2\n3 4\n0 0", 4), ("table 5 2\n\n1 2\n3 4", 2), ("table 5 2\n1 2\n\n3 4", 3), ("\ntable 5 1\n1", 1),
    ("table 5 2\n1  2\n3 4", 2), ("table 5 2\n1 2 \n3 4", 2), ("table 5 2\n 1 2\n3 4", 2), ("table 5 2\n1\t2\n3 4", 2),
    ("table 5 2\n1 2\n3 4 ", 3), ("table 5 2\n1 2\n3", 3), ("table 5 2\n1 2\n3 4 0", 3), ("table 5 2\n1 2\n34", 3),
    ("table 5 2\n1 2\n3 5", 3), ("table 5 2\n1 2\n3 -1", 3), ("table 5 2\n1 2\n3 +4", 3), ("table 5 2\n1 2\n3 04", 3),
    ("table 5 2\n1 2\n3 00", 3), ("table 5 2\n1 2\n3 -0", 3), ("table 5 2\n1 2\n3 4.", 3), ("table 5 2\n1 2\n3 x", 3),
    ("table 5 2\n1 2\n3 12", 3), ("table 5 2\n1 2\n3 0x1", 3), ("table 5 2\n1 2\n3 1_0", 3), ("table 2 1\n2", 2),
    ("table 5 2\n1 x\n3 x", 2), ("table 5 2\n1 x", 2), ("table 5 2\n1 2\n3 x\n0 0", 3), ("table 4 2\n1 x", 1),
    ("table 5 2\r\n1 2\r\n3 4", 1), ("table 5 2\n1 2\r\n3 4", 2), ("table 5 2\n1 2\n3 4\r", 3), ("table 5 2\r1 2\r3 4", 1),
    ("table 5 2\n1 2\x0b3 4", 2), ("table 5 2\n1 2\n3 4\x0c", 3), ("table 5 2\n1\u00a02\n3 4", 2), ("table 5 1\n\u0663", 2),
    ("table 5 1\n\u00b2", 2), ("table \u0665 1\n1", 1), ("table 5 1\nTrue", 2), ("table 5 1\nNone", 2),
    ("table 7 1\n7", 2), ("table 7 1\n" + "1" * 1900, 2), ("x" * 2000, 1), ("\n" * 2000, 1),
    ("table 2 3\n1 0 1\n1 1 1\n0 0 1 1\n0 0 1", 4), ("table 2 3\n1 0 1\n1 1 1", 4), ("table 2 3\n1 0 1", 3),
]


class Texts(unittest.TestCase):
    def wrong(self, text, at):
        with self.assertRaises(BadText) as caught:
            read_table(text)
        self.assertEqual(repr(caught.exception.at), repr(at), text)

    def test_there_and_back(self):
        for table in random_tables(31):
            p, rows = table
            text = text_of(table)
            self.assertEqual(text, "\n".join([f"table {p} {len(rows)}"] + [" ".join(map(str, row)) for row in rows]))
            self.assertEqual(repr(read_table(text)), repr(table))

    def test_all_numbers(self):
        for p in PRIMES:
            for number in range(p):
                self.assertEqual(text_of((p, ((number,),))), f"table {p} 1\n{number}")
                self.assertEqual(read_table(f"table {p} 1\n{number}"), (p, ((number,),)))
            for number in (-1, p, p + 1, HUGE):
                self.wrong(f"table {p} 1\n{number}", 2)

    def test_wrong_texts(self):
        for text, at in WRONG_TEXTS:
            self.wrong(text, at)

    def test_no_string(self):
        for value in ODD_VALUES + [b"table 2 1\n1", (2, ((1,),)), ["table 2 1", "1"], ("table 2 1\n1",)]:
            if isinstance(value, str):
                continue
            self.wrong(value, 0)

    def test_a_line_too_few_and_too_many(self):
        for table in random_tables(32, 1):
            lines = text_of(table).split("\n")
            for many in range(1, len(lines)):
                self.wrong("\n".join(lines[:many]), many + 1)
            for more in ("", " ", "0", lines[-1], lines[0]):
                self.wrong("\n".join(lines + [more]), len(lines) + 1)

    def test_one_line_at_a_time(self):
        rng = random.Random(33)
        for table in random_tables(34, 1):
            lines = text_of(table).split("\n")
            for at in range(1, len(lines)):
                line = lines[at]
                for bad in (line + " ", " " + line, line + " 0", line[:-1] + str(table[0]), "", "+" + line,
                            "0" + line, "-" + line, line[1:], line.replace(" ", "  ") + " ", line + "\t"):
                    changed = lines[:at] + [bad] + lines[at + 1:]
                    self.wrong("\n".join(changed), at + 1)
                    if at + 1 < len(lines):
                        changed[rng.randrange(at + 1, len(lines))] = "x"
                        self.wrong("\n".join(changed), at + 1)

    def test_another_prime_or_size(self):
        text = "table 5 2\n1 2\n3 4"
        self.assertEqual(read_table(text.replace("5", "7")), (7, ((1, 2), (3, 4))))
        for head, at in (("table 3 2", 3), ("table 2 2", 2), ("table 4 2", 1), ("table 5 1", 2), ("table 5 3", 2)):
            self.wrong(text.replace("table 5 2", head), at)
        self.wrong("table 5 3\n1 2 3\n1 2 3", 4)

    def test_text_of_no_table(self):
        for value in ODD_VALUES:
            with self.assertRaises(BadTable) as caught:
                text_of(value)
            self.assertIs(caught.exception.thing, value)


if __name__ == "__main__":
    unittest.main()

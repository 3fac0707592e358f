"""Point 14 of the document."""

import unittest
from itertools import product

import wrong_values as wrong
from known_rules import THREE, read_figures
from dealclashes.errors import BadRow, BadRule, InvalidText, NotText
from dealclashes.rows import rows
from dealclashes.rules import names, told_rule
from dealclashes.texts import read_row, read_rule, write_row, write_rule

# The figures 0 and 1 of other scripts, and a superscript one.
OTHER_FIGURES = ("\u0660\u0661", "\uff10\uff11", "0\u00b9", "\u09e6\u09e7")
NO_ROWS = (
    "", " ", "  ", "0", "01", "012", "01 1", "0 01", "01  10", " 01 10", "01 10 ", "01 10\n", "01\t10", "01\n10",
    "01,10", "01-10", "0110", "01 12", "01 02", "01 00", "01 11", "12 21", "01 012", "012 01", "01 10 01",
    "012 021", "012 021 102 120", "012 021 10", "012 021 1020", "012 021 013", "012 021 011", "012  021 102",
    "012 021 102 ", " 012 021 102", "012021102", "ab ba", "01 ab", "01 1O", "01 l0", "o1 10", "01 1.", "01 +1",
    "01 -1", "01 1_", "0x 10", "None", "01 10\u00a0", "01\u00a010", "01\u200310", "01 1\u00e9", "01 10\x00",
    "(0, 1) (1, 0)", "012 021 10\u0662", "row", "0 1 2",
) + tuple(f"01 {figures}" for figures in OTHER_FIGURES) + tuple(f"{figures} 01" for figures in OTHER_FIGURES)
NO_RULES = (
    "", "0", "01", "001", "00100", "0020", "2010", "001a", "00 0", " 010", "010 ", "0 1 0 0", "0010\n", "\n010",
    "-010", "+010", "0_10", "00.0", "001O", "None", "001\u0661", "\uff10\uff10\uff11\uff10", "001\u00b9", "00\x000",
    "0" * 215, "0" * 217, "6" + "0" * 215, "0" * 215 + "6", "0" * 100 + "9" + "0" * 115, "0" * 215 + " ",
    " " + "0" * 215, "0" * 107 + "a" + "0" * 108, "0" * 215 + "\u0661", "0 " * 108, "0" * 215 + "\n",
    "0, 0, 1, 0", "01 10",
)


class Rows(unittest.TestCase):
    def test_examples(self):
        self.assertEqual(write_row(((0, 1, 2), (2, 1, 0), (0, 2, 1))), "012 210 021")
        self.assertEqual(read_row("01 10"), ((0, 1), (1, 0)))

    def test_each_row_is_read_back(self):
        texts = []
        for people in (2, 3):
            for row in rows(people):
                text = write_row(row)
                texts.append(text)
                self.assertEqual(len(text), people * people + people - 1)
                self.assertEqual(read_row(text), row)
        self.assertEqual(len(set(texts)), 220)
        self.assertEqual(texts[:4], ["01 01", "01 10", "10 01", "10 10"])
        self.assertEqual([texts[4], texts[-1]], ["012 012 012", "210 210 210"])

    def test_each_text_is_written_back(self):
        for text in ("01 01", "10 01", "210 021 102", "120 201 012"):
            self.assertEqual(write_row(read_row(text)), text)

    def test_kinds(self):
        row = read_row("120 201 012")
        self.assertEqual(row, ((1, 2, 0), (2, 0, 1), (0, 1, 2)))
        self.assertTrue(all(isinstance(ranking, tuple) for ranking in row))
        self.assertTrue(all(type(thing) is int for ranking in row for thing in ranking))

    def test_invalid_text(self):
        for text in NO_ROWS:
            with self.subTest(text=text), self.assertRaises(InvalidText):
                read_row(text)

    def test_not_text(self):
        for value in wrong.NO_TEXTS:
            with self.subTest(value=value), self.assertRaises(NotText):
                read_row(value)

    def test_wrong_row(self):
        for value in wrong.ROWS:
            with self.subTest(value=value), self.assertRaises(BadRow):
                write_row(value)


class Rules(unittest.TestCase):
    def test_examples(self):
        self.assertEqual([write_rule((0, 0, 1, 1)), read_rule("0110")], ["0011", (0, 1, 1, 0)])

    def test_each_rule_is_read_back(self):
        for rule in product((0, 1), repeat=4):
            self.assertEqual(write_rule(rule), "".join(map(str, rule)))
            self.assertEqual(read_rule(write_rule(rule)), rule)

    def test_rules_for_three_people_are_read_back(self):
        for figures in THREE.values():
            rule = read_rule(figures)
            self.assertEqual(rule, read_figures(figures))
            self.assertTrue(isinstance(rule, tuple) and all(type(number) is int for number in rule))
            self.assertEqual(write_rule(rule), figures)
        for name in names():
            rule = told_rule(name, 3)
            self.assertEqual(read_rule(write_rule(rule)), rule)

    def test_figures_in_order(self):
        rule = tuple(at % 6 for at in range(216))
        self.assertEqual(write_rule(rule), "012345" * 36)
        self.assertEqual(read_rule("012345" * 36), rule)

    def test_invalid_text(self):
        for text in NO_RULES:
            with self.subTest(text=text), self.assertRaises(InvalidText):
                read_rule(text)

    def test_not_text(self):
        for value in wrong.NO_TEXTS:
            with self.subTest(value=value), self.assertRaises(NotText):
                read_rule(value)

    def test_wrong_rule(self):
        for value, index in wrong.RULES:
            with self.subTest(value=value), self.assertRaises(BadRule) as caught:
                write_rule(value)
            self.assertEqual(caught.exception.index, index)
            self.assertIs(type(caught.exception.index), type(index))


if __name__ == "__main__":
    unittest.main()

"""Point 15 of the document."""

import unittest
from itertools import product

import plain_reference as plain
import wrong_values as wrong
from dealclashes.desks import Desk
from dealclashes.errors import BadPeople, InvalidText, NothingToUndo, NotText
from dealclashes.rules import names, told_rule

WRONG_LINES = (
    "", " ", "  ", "\n", "rows", "Row", "ROW", "row ", " row", "row\n", "row row", "row 0", "undo", "swap", "none",
    "Keep", "keep ", " keep", "keep keep", "keep 0", "better", "better ", "better  keep", "better keep ",
    " better keep", "better swap", "better Keep", "better keep keep", "better keep 0", "better row", "better 0",
    "better better", "lies", "lies keep", "lies keep ", "lies  keep 0", "lies keep  0", "lies keep 0 ", "lies 0 keep",
    "lies keep 0 0", "lies swap 0", "lies keep 3", "lies keep -1", "lies keep 00", "lies keep +0", "lies keep x",
    "lies keep \u0661", "lies keep 0 1", "lies row 0", "0", "0 ", " 0", "012", "0  012", "0 012 ", " 0 012",
    "0\t012", "0 012\n", "0 012 012", "0 01", "0 0123", "0 0", "0 002", "0 013", "0 12", "0 abc", "0 0l2", "0 -12",
    "3 012", "4 012", "-1 012", "00 012", "+0 012", "0.0 012", "x 012", "\u0660 012", "\uff10 012", "0 \u0660\u0661\u0662",
    "0 01\u00b2", "012 0", "0,012", "0: 012", "0\u00a0012", "keep\u00a0", "\u00e9", "0 012\x00", "02 012", "10 012",
)
WRONG_LINES_TWO = (
    "", " ", "2 01", "2 012", "0 012", "0 0", "0 02", "0 12", "0 00", "lies keep 2", "rows", "0 01 ", "0  01", "01 10",
)


def write(found):
    return " ".join("".join(map(str, things)) for things in found) or "none"


class Example(unittest.TestCase):
    def test_example(self):
        desk = Desk(3)
        lines = ("0 120", "1 201", "2 012", "row", "rings", "better keep", "lies turns 1")
        self.assertEqual(
            [desk.run(line) for line in lines],
            [None, None, None, "120 201 012", "120", "021 102 120 201 210", "none"],
        )
        self.assertEqual(
            [desk.undo(), desk.run("turns"), desk.row], [None, "120", ((1, 2, 0), (2, 0, 1), (0, 1, 2))],
        )
        with self.assertRaises(InvalidText):
            desk.run("3 012")


class Lines(unittest.TestCase):
    def test_at_first_all_rankings_ascend(self):
        self.assertEqual(Desk(2).row, ((0, 1), (0, 1)))
        self.assertEqual(Desk(3).row, ((0, 1, 2),) * 3)
        self.assertEqual([Desk(2).run("row"), Desk(3).run("row")], ["01 01", "012 012 012"])

    def test_each_person_is_given_each_ranking(self):
        for people in (2, 3):
            desk = Desk(people)
            row = list(desk.row)
            for person, ranking in product(range(people), plain.all_dealings(people)):
                self.assertIsNone(desk.run(f"{person} {write([ranking])}"))
                row[person] = ranking
                self.assertEqual(desk.row, tuple(row))
                self.assertEqual(desk.run("row"), write(row))

    def test_answers_at_many_rows(self):
        for people, step in ((2, 1), (3, 29)):
            for row in plain.all_rows(people)[::step]:
                desk = Desk(people)
                for person, ranking in enumerate(row):
                    desk.run(f"{person} {write([ranking])}")
                for name in names():
                    deals = plain.as_dict(told_rule(name, people))
                    self.assertEqual(desk.run(name), write([deals[row]]))
                    self.assertEqual(desk.run(f"better {name}"), write(plain.better(row, deals[row])))
                    for person in range(people):
                        self.assertEqual(desk.run(f"lies {name} {person}"), write(plain.lies(deals, row, person)))
                self.assertEqual(desk.row, row)

    def test_better_and_lies_with_answers(self):
        desk = Desk(3)
        for line in ("0 012", "1 012", "2 102"):
            desk.run(line)
        self.assertEqual([desk.run("asks"), desk.run("lies asks 1")], ["021", "102 120"])
        desk = Desk(2)
        for line in ("0 10", "1 01"):
            desk.run(line)
        self.assertEqual([desk.run("keep"), desk.run("better keep"), desk.run("better rings")], ["01", "10", "none"])

    def test_desks_are_apart(self):
        one, two = Desk(3), Desk(3)
        one.run("0 210")
        self.assertEqual(two.row, ((0, 1, 2),) * 3)
        with self.assertRaises(NothingToUndo):
            two.undo()


class WrongLines(unittest.TestCase):
    def check(self, people, given, lines, error):
        desk = Desk(people)
        for line in given:
            desk.run(line)
        row = desk.row
        for line in lines:
            with self.subTest(line=line), self.assertRaises(error):
                desk.run(line)
            self.assertEqual(desk.row, row)
        # None of them is taken back by undo.
        for _ in given:
            self.assertIsNone(desk.undo())
        self.assertEqual(desk.row, Desk(people).row)
        with self.assertRaises(NothingToUndo):
            desk.undo()

    def test_invalid_text(self):
        self.check(3, (), WRONG_LINES, InvalidText)
        self.check(3, ("0 120", "2 201"), WRONG_LINES, InvalidText)
        self.check(2, ("1 10",), WRONG_LINES_TWO, InvalidText)

    def test_not_text(self):
        self.check(3, ("0 120",), wrong.NO_TEXTS, NotText)
        self.check(2, (), wrong.NO_TEXTS, NotText)

    def test_wrong_people(self):
        for value in wrong.PEOPLE:
            with self.subTest(value=value), self.assertRaises(BadPeople):
                Desk(value)


class Undo(unittest.TestCase):
    def test_nothing_to_undo(self):
        desk = Desk(3)
        with self.assertRaises(NothingToUndo):
            desk.undo()
        desk.run("row")
        desk.run("keep")
        with self.assertRaises(NothingToUndo):
            desk.undo()
        self.assertEqual(desk.row, ((0, 1, 2),) * 3)

    def test_several_lines_back(self):
        desk = Desk(3)
        seen = [desk.row]
        for line in ("0 120", "0 210", "1 201", "2 102", "0 012"):
            desk.run(line)
            seen.append(desk.row)
        while len(seen) > 1:
            self.assertEqual(desk.row, seen.pop())
            self.assertIsNone(desk.undo())
        self.assertEqual(desk.row, seen[0])
        with self.assertRaises(NothingToUndo):
            desk.undo()

    def test_behind_lines_that_return_texts(self):
        desk = Desk(2)
        desk.run("0 10")
        for line in ("row", "keep", "better keep", "lies asks 1"):
            self.assertIsInstance(desk.run(line), str)
        desk.undo()
        self.assertEqual(desk.row, ((0, 1), (0, 1)))

    def test_a_line_that_gives_the_same_ranking_is_taken_back_alone(self):
        desk = Desk(2)
        desk.run("0 10")
        desk.run("0 10")
        desk.undo()
        self.assertEqual(desk.row, ((1, 0), (0, 1)))
        desk.undo()
        self.assertEqual(desk.row, ((0, 1), (0, 1)))

    def test_lines_after_undo(self):
        desk = Desk(3)
        desk.run("0 120")
        desk.undo()
        desk.run("1 210")
        self.assertEqual(desk.run("row"), "012 210 012")
        desk.undo()
        self.assertEqual(desk.run("row"), "012 012 012")
        with self.assertRaises(NothingToUndo):
            desk.undo()
        self.assertIsNone(desk.run("2 201"))

    def test_row_is_only_read(self):
        desk = Desk(2)
        with self.assertRaises(AttributeError):
            desk.row = ((1, 0), (1, 0))
        self.assertIsInstance(type(desk).row, property)


if __name__ == "__main__":
    unittest.main()

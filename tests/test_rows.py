import unittest
from itertools import product

import plain_reference as plain
import wrong_values as wrong
from dealclashes.errors import BadDealing, BadPeople, BadRow, NotAlike
from dealclashes.rows import better, blocking_group, dealings, rows

TWO = ((0, 1), (1, 0))
THREE = ((0, 1, 2), (0, 2, 1), (1, 0, 2), (1, 2, 0), (2, 0, 1), (2, 1, 0))
ROW = ((1, 2, 0), (1, 0, 2), (2, 0, 1))


class Dealings(unittest.TestCase):
    def test_two_and_six_ascending(self):
        self.assertEqual(dealings(2), TWO)
        self.assertEqual(dealings(3), THREE)

    def test_example(self):
        self.assertEqual([dealings(2), dealings(3)[3]], [((0, 1), (1, 0)), (1, 2, 0)])

    def test_wrong_people(self):
        for value in wrong.PEOPLE:
            with self.subTest(value=value), self.assertRaises(BadPeople):
                dealings(value)


class Rows(unittest.TestCase):
    def test_four_for_two_people(self):
        self.assertEqual(rows(2), (
            ((0, 1), (0, 1)), ((0, 1), (1, 0)), ((1, 0), (0, 1)), ((1, 0), (1, 0)),
        ))

    def test_216_for_three_people_ascending(self):
        found = rows(3)
        self.assertIsInstance(found, tuple)
        self.assertEqual(len(found), 216)
        self.assertEqual(list(found), sorted(product(THREE, repeat=3)))
        self.assertEqual(found[0], ((0, 1, 2),) * 3)
        self.assertEqual(found[1], ((0, 1, 2), (0, 1, 2), (0, 2, 1)))
        self.assertEqual(found[36], ((0, 2, 1), (0, 1, 2), (0, 1, 2)))
        self.assertEqual(found[215], ((2, 1, 0),) * 3)

    def test_example(self):
        self.assertEqual([len(rows(people)) for people in (2, 3)], [4, 216])

    def test_wrong_people(self):
        for value in wrong.PEOPLE:
            with self.subTest(value=value), self.assertRaises(BadPeople):
                rows(value)


class Better(unittest.TestCase):
    def test_examples(self):
        self.assertEqual([better(ROW, (0, 1, 2)), better(ROW, (2, 1, 0))], [(), ()])

    def test_two_people(self):
        self.assertEqual(better(((1, 0), (0, 1)), (0, 1)), ((1, 0),))
        self.assertEqual(better(((0, 1), (1, 0)), (1, 0)), ((0, 1),))
        self.assertEqual(better(((1, 0), (0, 1)), (1, 0)), ())
        self.assertEqual(better(((0, 1), (0, 1)), (0, 1)), ())
        self.assertEqual(better(((0, 1), (0, 1)), (1, 0)), ())

    def test_several_come_ascending(self):
        self.assertEqual(
            better(((1, 2, 0), (2, 0, 1), (0, 1, 2)), (0, 1, 2)),
            ((0, 2, 1), (1, 0, 2), (1, 2, 0), (2, 0, 1), (2, 1, 0)),
        )

    def test_one_who_keeps_its_thing_is_no_hindrance(self):
        self.assertEqual(better(((1, 0, 2), (0, 1, 2), (2, 0, 1)), (0, 1, 2)), ((1, 0, 2),))

    def test_all_rows_and_dealings(self):
        for people in (2, 3):
            for row, dealing in product(rows(people), dealings(people)):
                self.assertEqual(better(row, dealing), plain.better(row, dealing), (row, dealing))


class BlockingGroup(unittest.TestCase):
    def test_examples(self):
        self.assertEqual(blocking_group(ROW, (1, 0, 2)), (1,))
        self.assertIsNone(blocking_group(ROW, (0, 1, 2)))

    def test_two_people(self):
        self.assertEqual(blocking_group(((0, 1), (0, 1)), (1, 0)), (0,))
        self.assertEqual(blocking_group(((1, 0), (1, 0)), (1, 0)), (1,))
        self.assertEqual(blocking_group(((1, 0), (0, 1)), (0, 1)), (0, 1))
        self.assertIsNone(blocking_group(((1, 0), (0, 1)), (1, 0)))

    def test_the_first_of_several_groups(self):
        self.assertEqual(blocking_group(((0, 1, 2), (1, 0, 2), (2, 0, 1)), (1, 2, 0)), (0,))
        self.assertEqual(blocking_group(((2, 0, 1), (1, 2, 0), (0, 2, 1)), (0, 2, 1)), (1,))
        self.assertEqual(blocking_group(((1, 2, 0), (0, 2, 1), (0, 1, 2)), (0, 1, 2)), (0, 1))
        self.assertEqual(blocking_group(((2, 0, 1), (1, 0, 2), (0, 1, 2)), (0, 1, 2)), (0, 2))
        self.assertEqual(blocking_group(((1, 0, 2), (2, 1, 0), (0, 2, 1)), (0, 1, 2)), (0, 1, 2))

    def test_a_group_that_only_gets_back_its_own_is_not_better(self):
        self.assertIsNone(blocking_group(((0, 1, 2), (0, 1, 2), (0, 1, 2)), (0, 1, 2)))

    def test_all_rows_and_dealings(self):
        for people in (2, 3):
            for row, dealing in product(rows(people), dealings(people)):
                self.assertEqual(blocking_group(row, dealing), plain.blocking_group(row, dealing), (row, dealing))


class WrongRowsAndDealings(unittest.TestCase):
    def test_wrong_row(self):
        for function, value in product((better, blocking_group), wrong.ROWS):
            with self.subTest(function=function, value=value), self.assertRaises(BadRow):
                function(value, (0, 1))

    def test_wrong_dealing(self):
        for function, value in product((better, blocking_group), wrong.DEALINGS):
            with self.subTest(function=function, value=value), self.assertRaises(BadDealing):
                function(((0, 1), (0, 1)), value)
            with self.subTest(function=function, value=value), self.assertRaises(BadDealing):
                function(ROW, value)

    def test_not_alike(self):
        for function in (better, blocking_group):
            with self.assertRaises(NotAlike):
                function(ROW, (0, 1))
            with self.assertRaises(NotAlike):
                function(((0, 1), (0, 1)), (0, 1, 2))

    def test_the_row_comes_first(self):
        for function in (better, blocking_group):
            with self.assertRaises(BadRow):
                function(((0, 1), (0, 0)), (0, 0))
            with self.assertRaises(BadRow):
                function(((0, 1), (0, 0)), (0, 1, 2))


if __name__ == "__main__":
    unittest.main()

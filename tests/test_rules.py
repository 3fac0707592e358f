import unittest
from itertools import product

import plain_reference as plain
import wrong_values as wrong
from known_rules import THREE, read_figures
from dealclashes.errors import BadName, BadPeople, BadPerson, BadRow, BadRule, NotAlike
from dealclashes.rows import dealings, rows
from dealclashes.rules import bosses, count_people, dealt, lies, names, told_rule

ROW = ((1, 2, 0), (1, 0, 2), (2, 0, 1))
TRADE, BACK = (0, 0, 1, 0), (1, 1, 0, 0)
SAME = ((0, 1, 2),) * 3
KNOWN = tuple(read_figures(figures) for figures in THREE.values())


def some_rules(people):
    """The told rules, and all others for two people or the known ones for three."""
    told = [told_rule(name, people) for name in names()]
    return told + (list(product((0, 1), repeat=4)) if people == 2 else list(KNOWN))


def dealt_by(name, row):
    return dealt(told_rule(name, len(row)), row)


class CountPeople(unittest.TestCase):
    def test_two_and_three(self):
        self.assertEqual(count_people(TRADE), 2)
        self.assertEqual(count_people((5,) * 216), 3)

    def test_example(self):
        self.assertEqual(count_people(told_rule("keep", 2)), 2)


class Dealt(unittest.TestCase):
    def test_examples(self):
        self.assertEqual(
            [dealt(told_rule(name, 3), ROW) for name in names()],
            [(1, 0, 2), (0, 1, 2), (0, 1, 2), (1, 0, 2)],
        )

    def test_each_number_is_the_place_of_a_dealing(self):
        for rule in some_rules(2) + some_rules(3):
            people = count_people(rule)
            for row, number in list(zip(rows(people), rule))[::5]:
                self.assertEqual(dealt(rule, row), dealings(people)[number])

    def test_rows_are_told_apart(self):
        self.assertEqual([dealt(BACK, row) for row in rows(2)], [(1, 0), (1, 0), (0, 1), (0, 1)])
        last = (0,) * 215 + (3,)
        self.assertEqual(dealt(last, ((2, 1, 0),) * 3), (1, 2, 0))
        self.assertEqual(dealt(last, ((2, 1, 0), (2, 1, 0), (2, 0, 1))), (0, 1, 2))


class Bosses(unittest.TestCase):
    def test_examples(self):
        self.assertEqual(bosses(told_rule("turns", 3)), (0,))

    def test_two_people(self):
        self.assertEqual(bosses((0, 0, 1, 1)), (0,))
        self.assertEqual(bosses((1, 0, 1, 0)), (1,))
        self.assertEqual(bosses(TRADE), ())
        self.assertEqual(bosses((0, 0, 0, 0)), ())

    def test_a_boss_with_another_number(self):
        for person in range(3):
            deals = [[d for d in dealings(3) if d[person] == row[person][0]][0] for row in rows(3)]
            rule = tuple(dealings(3).index(deal) for deal in deals)
            self.assertEqual(bosses(rule), (person,))
            missed = rule[:100] + ((rule[100] + 3) % 6,) + rule[101:]
            self.assertEqual(bosses(missed), ())

    def test_compared_with_the_reference(self):
        for rule in some_rules(2) + some_rules(3):
            self.assertEqual(bosses(rule), plain.bosses(plain.as_dict(rule)))


class Lies(unittest.TestCase):
    def test_examples(self):
        row = ((0, 1, 2), (0, 1, 2), (1, 0, 2))
        self.assertEqual(lies(told_rule("asks", 3), row, 1), ((1, 0, 2), (1, 2, 0)))

    def test_two_people(self):
        self.assertEqual(lies(BACK, ((0, 1), (0, 1)), 0), ((1, 0),))
        self.assertEqual(lies(BACK, ((0, 1), (0, 1)), 1), ())
        self.assertEqual(lies((0, 0, 0, 1), ((1, 0), (0, 1)), 1), ((1, 0),))

    def test_none_where_nobody_can_gain(self):
        for name, person in product(("keep", "rings", "turns"), range(3)):
            self.assertEqual(lies(told_rule(name, 3), ROW, person), ())

    def test_a_gain_short_of_the_first_thing(self):
        self.assertEqual(lies(told_rule("asks", 3), ((0, 2, 1), (0, 2, 1), (2, 0, 1)), 1), ((2, 0, 1), (2, 1, 0)))

    def test_compared_with_the_reference(self):
        for rule in some_rules(2) + some_rules(3):
            people, deals = count_people(rule), plain.as_dict(rule)
            for row, person in product(rows(people)[::7] if people == 3 else rows(2), range(people)):
                self.assertEqual(lies(rule, row, person), plain.lies(deals, row, person), (rule, row, person))


class ToldRules(unittest.TestCase):
    def test_names(self):
        self.assertEqual(names(), ("asks", "keep", "rings", "turns"))

    def test_two_people(self):
        self.assertEqual(told_rule("asks", 2), (0, 0, 1, 1))
        self.assertEqual(told_rule("keep", 2), (0, 0, 0, 0))
        self.assertEqual(told_rule("rings", 2), (0, 0, 1, 0))
        self.assertEqual(told_rule("turns", 2), (0, 0, 1, 1))

    def test_kinds(self):
        for name in names():
            rule = told_rule(name, 3)
            self.assertIsInstance(rule, tuple)
            self.assertEqual(len(rule), 216)
            self.assertTrue(all(type(number) is int and 0 <= number < 6 for number in rule))

    def test_keep(self):
        self.assertEqual(told_rule("keep", 3), (0,) * 216)

    def test_turns(self):
        self.assertEqual(dealt_by("turns", SAME), (0, 1, 2))
        self.assertEqual(dealt_by("turns", ((2, 1, 0),) * 3), (2, 1, 0))
        self.assertEqual(dealt_by("turns", ((0, 1, 2), (0, 2, 1), (2, 0, 1))), (0, 2, 1))
        for row in rows(3):
            first = row[0][0]
            second = [thing for thing in row[1] if thing != first][0]
            self.assertEqual(dealt_by("turns", row), (first, second, 3 - first - second))

    def test_asks(self):
        self.assertEqual(dealt_by("asks", SAME), (0, 1, 2))
        # All ask for 0; then person 1 asks for 2 and gets it, person 2 for 2, then for 1.
        self.assertEqual(dealt_by("asks", ((0, 1, 2), (0, 2, 1), (0, 2, 1))), (0, 2, 1))
        # Person 2 gets its first thing, although person 1 would have been served earlier.
        self.assertEqual(dealt_by("asks", ((0, 1, 2), (0, 2, 1), (2, 0, 1))), (0, 1, 2))
        # Person 1's second thing is gone when it asks for it.
        self.assertEqual(dealt_by("asks", ((1, 0, 2), (1, 0, 2), (0, 1, 2))), (1, 2, 0))

    def test_rings(self):
        self.assertEqual(dealt_by("rings", SAME), (0, 1, 2))
        self.assertEqual(dealt_by("rings", ((1, 2, 0), (2, 0, 1), (0, 1, 2))), (1, 2, 0))
        self.assertEqual(dealt_by("rings", ((1, 0, 2), (0, 1, 2), (0, 1, 2))), (1, 0, 2))
        for people in (2, 3):
            for row, number in zip(rows(people), told_rule("rings", people)):
                free = [d for d in dealings(people) if plain.blocking_group(row, d) is None]
                self.assertEqual(free, [dealings(people)[number]])

    def test_wrong_name(self):
        for value in wrong.NAMES:
            with self.subTest(value=value), self.assertRaises(BadName):
                told_rule(value, 3)

    def test_wrong_people(self):
        for name, value in product(names(), wrong.PEOPLE):
            with self.subTest(name=name, value=value), self.assertRaises(BadPeople):
                told_rule(name, value)

    def test_the_name_comes_first(self):
        with self.assertRaises(BadName):
            told_rule("swap", 4)


class WrongArguments(unittest.TestCase):
    def test_wrong_rule(self):
        calls = (
            count_people, bosses,
            lambda rule: dealt(rule, ((0, 1), (0, 1))), lambda rule: dealt(rule, SAME), lambda rule: dealt(rule, ()),
            lambda rule: lies(rule, ((0, 1), (0, 1)), 0), lambda rule: lies(rule, SAME, 0),
            lambda rule: lies(rule, None, None), lambda rule: lies(rule, SAME, 3),
        )
        for (value, index), call in product(wrong.RULES, calls):
            with self.subTest(value=value), self.assertRaises(BadRule) as caught:
                call(value)
            self.assertEqual(caught.exception.index, index)
            self.assertIs(type(caught.exception.index), type(index))

    def test_wrong_row(self):
        for value, rule in product(wrong.ROWS, (TRADE, KNOWN[0])):
            with self.subTest(value=value), self.assertRaises(BadRow):
                dealt(rule, value)
            with self.subTest(value=value), self.assertRaises(BadRow):
                lies(rule, value, 0)
            with self.subTest(value=value), self.assertRaises(BadRow):
                lies(rule, value, 9)

    def test_wrong_person(self):
        for value in wrong.PERSONS:
            with self.subTest(value=value), self.assertRaises(BadPerson):
                lies(TRADE, ((0, 1), (0, 1)), value)
            with self.subTest(value=value), self.assertRaises(BadPerson):
                lies(KNOWN[0], SAME, value)
        with self.assertRaises(BadPerson):
            lies(TRADE, ((0, 1), (0, 1)), 2)
        self.assertEqual(lies(KNOWN[0], SAME, 2), ())

    def test_not_alike(self):
        for rule, row in ((TRADE, SAME), (KNOWN[0], ((0, 1), (0, 1)))):
            with self.assertRaises(NotAlike):
                dealt(rule, row)
            for person in (0, 2, 3, None, "0", True):
                with self.subTest(person=person), self.assertRaises(NotAlike):
                    lies(rule, row, person)


if __name__ == "__main__":
    unittest.main()

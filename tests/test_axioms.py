import unittest
from itertools import combinations, product

import plain_reference as plain
import wrong_values as wrong
from known_rules import CLASHES, FORCING, THREE, read_figures, read_sets
from dealclashes.axioms import axioms, breaking_row, keeps, profile
from dealclashes.errors import BadAxiom, BadRule
from dealclashes.rows import dealings, rows
from dealclashes.rules import names, told_rule

TRADE, BACK = (0, 0, 1, 0), (1, 1, 0, 0)
ALL_TWO = tuple(product((0, 1), repeat=4))
# The four rows for two people.
BOTH_0, EACH_OWN, EACH_OTHER, BOTH_1 = rows(2)
LEAST = ((0, 1, 2),) * 3

# For two people: the axiom, a rule that keeps it, and rules that break it with their least rows.
TWO = (
    ("best", TRADE, (((0, 1, 1, 0), EACH_OWN), ((0, 0, 0, 0), EACH_OTHER))),
    ("core", TRADE, ((BACK, BOTH_0), ((0, 1, 1, 1), EACH_OWN), ((0, 0, 0, 0), EACH_OTHER), ((0, 0, 1, 1), BOTH_1))),
    ("first", (1, 0, 1, 1), (((0, 1, 1, 0), EACH_OWN), ((0, 0, 0, 0), EACH_OTHER))),
    ("growing", (0, 0, 0, 0), ((BACK, BOTH_0), ((0, 0, 0, 1), EACH_OTHER))),
    ("names", TRADE, (((0, 0, 1, 1), BOTH_0), ((1, 0, 1, 0), BOTH_0))),
    ("noboss", TRADE, (((0, 0, 1, 1), ()), ((1, 0, 1, 0), ()))),
    ("notlast", (1, 0, 1, 0), (((0, 1, 1, 0), EACH_OWN), ((0, 0, 0, 0), EACH_OTHER))),
    ("open", BACK, (((0, 0, 0, 0), ()), ((1, 1, 1, 1), ()))),
    ("own", (0, 0, 0, 0), ((BACK, BOTH_0), ((0, 1, 1, 0), EACH_OWN), ((0, 0, 0, 1), BOTH_1))),
    ("sole", (1, 0, 1, 0), (((0, 1, 1, 0), EACH_OWN), ((0, 0, 0, 0), EACH_OTHER))),
    ("still", BACK, ()),
    ("swapless", (1, 0, 1, 1), (((0, 1, 1, 0), EACH_OWN), ((0, 0, 0, 0), EACH_OTHER))),
    ("things", BACK, ((TRADE, BOTH_0), ((0, 0, 0, 1), EACH_OWN))),
    ("tops", BACK, ()),
    ("truthful", (0, 0, 1, 1), ((BACK, BOTH_0), ((0, 0, 0, 1), EACH_OTHER))),
)


def rule_of(deal):
    """The rule for three people by a function from rows to dealings."""
    return tuple(dealings(3).index(deal(row)) for row in rows(3))


def in_order(row, order):
    """What is dealt if the people take things in this order."""
    got = [None] * 3
    for person in order:
        got[person] = [thing for thing in row[person] if thing not in got][0]
    return tuple(got)


ASKS, KEEP, RINGS, TURNS = [told_rule(name, 3) for name in ("asks", "keep", "rings", "turns")]
KNOWN = {tuple(kept.split()): read_figures(figures) for kept, figures in THREE.items()}
# Person 0 gets its first thing, and by what it has second it chooses who comes next.
BOSSY = rule_of(lambda row: in_order(row, (0, 1, 2) if row[0][1] < row[0][2] else (0, 2, 1)))
# Deals at the least row, or at the greatest one, as nowhere else.
ODD, LATE = (5,) + (0,) * 215, (0,) * 215 + (5,)

# The same for three people; the rule that keeps the axiom is a told one or an own one below.
THREE_BREAKS = (
    ("best", TURNS, ((KEEP, ((0, 1, 2), (0, 2, 1), (0, 1, 2))), (ODD, ((0, 1, 2), (0, 2, 1), (0, 1, 2))))),
    ("core", RINGS, (
        (ODD, LEAST), (ASKS, ((0, 1, 2), (0, 1, 2), (1, 0, 2))), (TURNS, ((0, 1, 2), (0, 2, 1), (0, 2, 1))),
    )),
    ("first", TURNS, ((KEEP, ((0, 1, 2), (2, 0, 1), (1, 0, 2))),)),
    ("growing", TURNS, ((ASKS, LEAST), (ODD, LEAST), (LATE, ((1, 2, 0), (2, 1, 0), (2, 1, 0))))),
    ("names", RINGS, ((TURNS, LEAST), (ASKS, LEAST))),
    ("noboss", RINGS, ((TURNS, ()), (ASKS, ()), (BOSSY, ()))),
    ("notlast", KNOWN[("best", "first", "names", "noboss", "notlast", "open", "still", "swapless")], (
        (KEEP, ((0, 1, 2), (0, 2, 1), (0, 1, 2))), (TURNS, ((0, 1, 2), (0, 2, 1), (0, 2, 1))),
        (ASKS, ((0, 1, 2), (0, 1, 2), (1, 2, 0))),
    )),
    ("open", RINGS, ((KEEP, ()), (ODD, ()), (tuple(number % 5 for number in TURNS), ()))),
    ("own", KEEP, (
        (ODD, LEAST), (TURNS, ((0, 1, 2), (0, 2, 1), (0, 2, 1))), (ASKS, ((0, 1, 2), (0, 1, 2), (1, 0, 2))),
    )),
    ("sole", ASKS, ((KEEP, ((0, 1, 2), (0, 1, 2), (1, 0, 2))), (TURNS, ((0, 1, 2), (0, 1, 2), (1, 0, 2))))),
    ("still", TURNS, ((BOSSY, LEAST), (ODD, LEAST), (LATE, ((2, 1, 0), (0, 1, 2), (2, 1, 0))))),
    ("swapless", ASKS, ((KEEP, ((0, 1, 2), (0, 2, 1), (0, 1, 2))),)),
    ("things", TURNS, ((KEEP, LEAST), (RINGS, LEAST), (ODD, LEAST))),
    ("tops", KEEP, ((RINGS, LEAST), (TURNS, LEAST), (ODD, LEAST), (LATE, ((2, 0, 1),) * 3))),
    ("truthful", RINGS, (
        (ASKS, LEAST), (ODD, LEAST), (LATE, ((1, 2, 0), (2, 1, 0), (2, 1, 0))),
    )),
)


def changed(rule, places):
    """The rule with another dealing at each of the places."""
    return tuple((number + 1 + at % 4) % 6 if at in places else number for at, number in enumerate(rule))


class Axioms(unittest.TestCase):
    def test_fifteen_ascending(self):
        self.assertEqual(axioms(), (
            "best", "core", "first", "growing", "names", "noboss", "notlast", "open", "own", "sole",
            "still", "swapless", "things", "tops", "truthful",
        ))

    def test_examples(self):
        self.assertEqual(
            [len(axioms()), profile(BACK), keeps(TRADE, "core"), keeps(TRADE, "things")],
            [15, ("noboss", "open", "still", "things", "tops"), True, False],
        )
        self.assertEqual(
            [breaking_row(BACK, "own"), breaking_row((0, 0, 0, 0), "open"), breaking_row((0, 0, 1, 1), "noboss")],
            [((0, 1), (0, 1)), (), ()],
        )
        self.assertIsNone(breaking_row(TRADE, "best"))


class KeptAndBroken(unittest.TestCase):
    def check_table(self, table):
        self.assertEqual(tuple(axiom for axiom, _, _ in table), axioms())
        for axiom, good, breaks in table:
            with self.subTest(axiom=axiom):
                self.assertIs(keeps(good, axiom), True)
                self.assertIsNone(breaking_row(good, axiom))
                self.assertIn(axiom, profile(good))
            for bad, row in breaks:
                with self.subTest(axiom=axiom, row=row):
                    self.assertIs(keeps(bad, axiom), False)
                    self.assertEqual(breaking_row(bad, axiom), row)
                    self.assertNotIn(axiom, profile(bad))

    def test_two_people(self):
        self.check_table(TWO)

    def test_three_people(self):
        self.check_table(THREE_BREAKS)

    def test_no_rule_for_two_people_breaks_still_or_tops(self):
        for rule, axiom in product(ALL_TWO, ("still", "tops")):
            self.assertIs(keeps(rule, axiom), True)

    def test_core_is_broken_just_where_another_dealing_than_that_of_rings_is_dealt(self):
        for at in range(0, 216, 5):
            self.assertEqual(breaking_row(changed(RINGS, (at, 215)), "core"), rows(3)[at])

    def test_the_told_rules_for_three_people(self):
        self.assertEqual(profile(ASKS), ("best", "first", "open", "sole", "still", "swapless", "things"))
        self.assertEqual(profile(KEEP), ("growing", "names", "noboss", "own", "still", "tops", "truthful"))
        self.assertEqual(profile(TURNS), (
            "best", "first", "growing", "open", "still", "swapless", "things", "truthful",
        ))
        self.assertEqual(profile(RINGS), (
            "best", "core", "first", "growing", "names", "noboss", "open", "own", "still", "swapless", "truthful",
        ))

    def test_turns_in_another_order_keep_the_same_axioms(self):
        for order in ((1, 0, 2), (2, 1, 0), (1, 2, 0)):
            self.assertEqual(profile(rule_of(lambda row: in_order(row, order))), profile(TURNS))


class ComparedWithTheReference(unittest.TestCase):
    def check(self, rule):
        for axiom in axioms():
            row = plain.breaking_row(rule, axiom)
            self.assertEqual(breaking_row(rule, axiom), row, (rule, axiom))
            self.assertIs(keeps(rule, axiom), row is None)

    def test_all_rules_for_two_people(self):
        for rule in ALL_TWO:
            self.check(rule)

    def test_told_rules_with_changes_for_three_people(self):
        for name, places in product(names(), ((), (0,), (43,), (215,), (100, 171, 200), range(90, 216, 6))):
            self.check(changed(told_rule(name, 3), places))

    def test_known_rules_with_changes_for_three_people(self):
        for at, rule in enumerate(KNOWN.values()):
            self.check(rule)
            self.check(changed(rule, (60 + 13 * at,)))


class SetsThatTheDocumentTells(unittest.TestCase):
    def all_sets(self):
        return [wanted for size in range(16) for wanted in combinations(axioms(), size)]

    def test_the_maps_of_two_people(self):
        profiles = [set(profile(rule)) for rule in ALL_TWO]
        many = {wanted: sum(set(wanted) <= kept for kept in profiles) for wanted in self.all_sets()}

        def parts(wanted):
            return [many[wanted[:at] + wanted[at + 1:]] for at in range(len(wanted))]

        clashes = tuple(wanted for wanted in many if many[wanted] == 0 and min(parts(wanted)) > 0)
        forcing = tuple(wanted for wanted in many if many[wanted] == 1 and min(parts(wanted)) > 1)
        self.assertEqual(clashes, read_sets(CLASHES[2]))
        self.assertEqual(forcing, read_sets(FORCING[2]))
        self.assertEqual(len([kept for kept in profiles if kept == set(profile(TRADE))]), 1)
        self.assertEqual(sum("truthful" in kept for kept in profiles), 6)

    def test_the_greatest_sets_of_three_people(self):
        for kept, rule in KNOWN.items():
            self.assertEqual(profile(rule), kept)
        clashes = [set(clash) for clash in read_sets(CLASHES[3])]
        free = [set(wanted) for wanted in self.all_sets() if not any(clash <= set(wanted) for clash in clashes)]
        greatest = [kept for kept in free if not any(kept | {axiom} in free for axiom in set(axioms()) - kept)]
        self.assertEqual(sorted(tuple(sorted(kept)) for kept in greatest), sorted(KNOWN))

    def test_no_profile_for_three_people_has_a_clash_in_it(self):
        clashes = [set(clash) for clash in read_sets(CLASHES[3])]
        for rule, at in product((ASKS, KEEP, RINGS, TURNS, BOSSY, ODD), (0, 107, 215)):
            for tried in (rule, changed(rule, (at,))):
                kept = set(profile(tried))
                self.assertFalse([clash for clash in clashes if clash <= kept])


class WrongArguments(unittest.TestCase):
    def test_wrong_rule(self):
        calls = (
            profile, lambda rule: keeps(rule, "best"), lambda rule: breaking_row(rule, "open"),
            lambda rule: keeps(rule, "fair"), lambda rule: breaking_row(rule, None),
        )
        for (value, index), call in product(wrong.RULES, calls):
            with self.subTest(value=value), self.assertRaises(BadRule) as caught:
                call(value)
            self.assertEqual(caught.exception.index, index)

    def test_wrong_axiom(self):
        for function, rule, value in product((keeps, breaking_row), (TRADE, KEEP), wrong.AXIOMS):
            with self.subTest(function=function, value=value), self.assertRaises(BadAxiom):
                function(rule, value)


if __name__ == "__main__":
    unittest.main()

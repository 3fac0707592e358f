"""Points 8, 9, 10 and 13 of the document."""

import unittest
from itertools import combinations, product

import plain_reference as plain
import wrong_values as wrong
from known_rules import CLASHES, FORCING, THREE, read_figures, read_sets
from dealclashes.axioms import axioms, profile
from dealclashes.errors import BadAxioms, BadPeople, NotOne
from dealclashes.grounds import Ground
from dealclashes.maps import (
    can_add, can_hold, clashes, forces, forcings, greatest_sets, least_clashes, least_forcing, only_rule,
    rules_that_keep, some_rule,
)
from dealclashes.rules import told_rule
from dealclashes.searches import closed, fixed, search

ALL_TWO = tuple(product((0, 1), repeat=4))
PROFILES_TWO = [
    {axiom for axiom in plain.AXIOMS if plain.breaking_row(rule, axiom) is None} for rule in ALL_TWO
]
KNOWN = {tuple(kept.split()): read_figures(figures) for kept, figures in THREE.items()}
GREATEST_TWO = (
    (
        "best", "core", "first", "growing", "names", "noboss", "notlast", "open", "own", "sole", "still",
        "swapless", "tops", "truthful",
    ),
    (
        "best", "first", "growing", "notlast", "open", "sole", "still", "swapless", "things", "tops", "truthful",
    ),
    ("noboss", "open", "still", "things", "tops"),
)
ALL_SETS = tuple(wanted for size in range(16) for wanted in combinations(plain.AXIOMS, size))
WANTING = (can_hold, some_rule, forces, only_rule, can_add, clashes, forcings)
OF_PEOPLE = (greatest_sets, least_clashes, least_forcing)


def many_two(wanted):
    """How many rules for two people keep the axioms."""
    return sum(set(wanted) <= kept for kept in PROFILES_TWO)


def lying_in(parts, wanted):
    return tuple(part for part in parts if set(part) <= set(wanted))


def some_sets(step):
    return ALL_SETS[::step] + (ALL_SETS[-1],)


def parts_but_one(wanted):
    return [tuple(axiom for axiom in wanted if axiom != gone) for gone in wanted]


class TwoPeople(unittest.TestCase):
    def test_all_sets_against_all_rules(self):
        for wanted in ALL_SETS:
            many = many_two(wanted)
            self.assertIs(can_hold(2, wanted), many > 0, wanted)
            self.assertIs(forces(2, wanted), many == 1, wanted)
            self.assertEqual(clashes(2, wanted) == (), many > 0, wanted)
            if many == 1:
                self.assertNotEqual(forcings(2, wanted), ())

    def test_clashes_and_forcings(self):
        for wanted in some_sets(7):
            self.assertEqual(clashes(2, wanted), lying_in(read_sets(CLASHES[2]), wanted))
            self.assertEqual(forcings(2, wanted), lying_in(read_sets(FORCING[2]), wanted))

    def test_some_rule(self):
        for wanted in some_sets(11):
            rule = some_rule(2, wanted)
            if many_two(wanted):
                self.assertIn(rule, ALL_TWO)
                self.assertTrue(set(wanted) <= set(profile(rule)), wanted)
            else:
                self.assertIsNone(rule)

    def test_only_rule(self):
        for wanted in some_sets(11):
            if many_two(wanted) == 1:
                (rule,) = [rule for rule, kept in zip(ALL_TWO, PROFILES_TWO) if set(wanted) <= kept]
                self.assertEqual(only_rule(2, wanted), rule)
            else:
                with self.subTest(wanted=wanted), self.assertRaises(NotOne):
                    only_rule(2, wanted)

    def test_can_add(self):
        self.assertEqual(can_add(2, ("noboss", "things")), ("open", "still", "tops"))
        for wanted in some_sets(23):
            further = [axiom for axiom in plain.AXIOMS if axiom not in wanted]
            self.assertEqual(can_add(2, wanted), tuple(a for a in further if many_two(wanted + (a,))), wanted)

    def test_greatest_sets(self):
        self.assertEqual(greatest_sets(2), GREATEST_TWO)

    def test_least_clashes_and_least_forcing(self):
        self.assertEqual(least_clashes(2), read_sets(CLASHES[2]))
        self.assertEqual(least_forcing(2), read_sets(FORCING[2]))
        self.assertEqual([len(least_clashes(2)), len(least_forcing(2))], [10, 7])

    def test_the_lists_are_least(self):
        for clash in least_clashes(2):
            self.assertEqual(many_two(clash), 0)
            self.assertTrue(all(many_two(part) > 0 for part in parts_but_one(clash)))
        for forcing in least_forcing(2):
            self.assertEqual(many_two(forcing), 1)
            self.assertTrue(all(many_two(part) > 1 for part in parts_but_one(forcing)))


class RulesThatKeep(unittest.TestCase):
    def test_all_sets_of_few_axioms_and_some_of_many(self):
        for wanted in ALL_SETS[:140] + ALL_SETS[140::97] + GREATEST_TWO:
            kept_by = tuple(rule for rule, kept in zip(ALL_TWO, PROFILES_TWO) if set(wanted) <= kept)
            self.assertEqual(rules_that_keep(2, wanted), kept_by, wanted)

    def test_none_one_several_all(self):
        self.assertEqual(rules_that_keep(2, ("core", "things")), ())
        self.assertEqual(rules_that_keep(2, ("core",)), ((0, 0, 1, 0),))
        self.assertEqual(rules_that_keep(2, ("own",)), ((0, 0, 0, 0), (0, 0, 1, 0)))
        self.assertEqual(len(rules_that_keep(2, ("truthful",))), 6)
        self.assertEqual(rules_that_keep(2, ()), ALL_TWO)

    def test_people(self):
        for value in wrong.PEOPLE + (3,):
            for wanted in ((), ("core",), ("core", "best"), None):
                with self.subTest(value=value), self.assertRaises(BadPeople):
                    rules_that_keep(value, wanted)

    def test_wrong_axioms(self):
        for value in wrong.WANTED:
            with self.subTest(value=value), self.assertRaises(BadAxioms):
                rules_that_keep(2, value)


class ThreePeople(unittest.TestCase):
    def test_lists_of_the_document(self):
        self.assertEqual(least_clashes(3), read_sets(CLASHES[3]))
        self.assertEqual(least_forcing(3), read_sets(FORCING[3]))
        self.assertEqual([len(least_clashes(3)), len(least_forcing(3))], [26, 17])
        for found in (least_clashes(3), least_forcing(3)):
            self.assertEqual(list(found), sorted(found, key=lambda axioms: (len(axioms), axioms)))

    def test_greatest_sets(self):
        self.assertEqual(len(greatest_sets(3)), 11)
        self.assertEqual(greatest_sets(3), tuple(sorted(KNOWN)))

    def test_all_sets_against_the_known_rules(self):
        # Each known rule keeps its axioms by the second reading, and papers show the clashes (test_papers).
        kept_sets = [set(kept) for kept in KNOWN]
        for wanted in ALL_SETS:
            self.assertIs(can_hold(3, wanted), any(set(wanted) <= kept for kept in kept_sets), wanted)

    def test_forces_all_sets(self):
        for wanted in ALL_SETS:
            forced = bool(lying_in(read_sets(FORCING[3]), wanted) and not lying_in(read_sets(CLASHES[3]), wanted))
            self.assertIs(forces(3, wanted), forced, wanted)

    def test_clashes_and_forcings(self):
        for wanted in some_sets(7):
            self.assertEqual(clashes(3, wanted), lying_in(read_sets(CLASHES[3]), wanted))
            self.assertEqual(forcings(3, wanted), lying_in(read_sets(FORCING[3]), wanted))

    def test_none_one_several(self):
        for wanted in ((), ("best",), ("best", "truthful"), ("growing", "tops")):
            self.assertEqual([clashes(3, wanted), forcings(3, wanted)], [(), ()])
        self.assertEqual(clashes(3, ("first", "growing", "tops")), (("first", "growing", "tops"),))
        self.assertEqual(clashes(3, ("core", "own", "things")), (("core", "things"), ("own", "things")))
        self.assertEqual(forcings(3, ("best", "own", "truthful")), (("best", "own", "truthful"),))
        self.assertEqual(forcings(3, ("best", "core", "growing", "own")), (("core",), ("best", "growing", "own")))
        # Also where the axioms clash.
        self.assertEqual(forcings(3, ("core", "things")), (("core",),))
        self.assertEqual([len(clashes(3, axioms())), len(forcings(3, axioms()))], [26, 17])

    def test_can_add(self):
        self.assertEqual(can_add(3, ()), axioms())
        self.assertEqual(can_add(3, ("core", "things")), ())
        self.assertEqual(can_add(3, ("core",)), (
            "best", "first", "growing", "names", "noboss", "open", "own", "still", "swapless", "truthful",
        ))
        for kept in KNOWN:
            self.assertEqual(can_add(3, kept), ())
        for wanted in some_sets(41):
            further = [axiom for axiom in axioms() if axiom not in wanted]
            added = [axiom for axiom in further if any(set(wanted) | {axiom} <= set(kept) for kept in KNOWN)]
            self.assertEqual(can_add(3, wanted), tuple(added), wanted)

    def test_some_rule(self):
        for wanted in tuple(KNOWN) + read_sets(FORCING[3]) + ALL_SETS[:16] + some_sets(331):
            rule = some_rule(3, wanted)
            if any(set(wanted) <= set(kept) for kept in KNOWN):
                self.assertTrue(set(wanted) <= set(profile(rule)), wanted)
            else:
                self.assertIsNone(rule, wanted)

    def test_only_rule(self):
        rings, keep = told_rule("rings", 3), told_rule("keep", 3)
        by_tops = KNOWN[("first", "names", "noboss", "open", "own", "still", "tops")]
        by_truth = KNOWN[("names", "noboss", "open", "own", "tops", "truthful")]
        expected = (
            rings, rings, rings, rings, keep, rings, rings, keep, rings, rings, by_tops, rings, keep, by_tops,
            rings, by_truth, keep,
        )
        self.assertEqual([only_rule(3, forcing) for forcing in least_forcing(3)], list(expected))

    def test_not_one(self):
        several = ((), ("best",), ("best", "truthful"), ("own",), ("growing", "own"))
        for wanted in several + least_clashes(3) + (("core", "own", "things"), axioms()):
            with self.subTest(wanted=wanted), self.assertRaises(NotOne):
                only_rule(3, wanted)


class TheTableOfForcingSets(unittest.TestCase):
    """By searches: just one rule keeps the least forcing sets, and several keep whatever holds none of them."""

    def dealt_elsewise(self, wanted):
        """Whether another rule than the found one keeps the axioms, too."""
        ground = Ground(3, wanted)
        first = closed(ground, ground.first)
        rule = search(ground, first)[1]
        for place, number in enumerate(rule):
            for other in range(6):
                if other != number and first[place] >> other & 1:
                    found = search(ground, closed(ground, fixed(first, place, 1 << other)))[1]
                    if found is not None:
                        self.assertTrue(set(wanted) <= set(profile(found)))
                        return True
        return False

    def test_forced(self):
        for forcing in read_sets(FORCING[3]):
            self.assertFalse(self.dealt_elsewise(forcing), forcing)

    def test_parts_of_forcing_sets_and_greatest_others_are_not_forced(self):
        bars = read_sets(CLASHES[3]) + read_sets(FORCING[3])
        free = [set(wanted) for wanted in ALL_SETS if not lying_in(bars, wanted)]
        greatest = [kept for kept in free if not any(kept | {axiom} in free for axiom in set(axioms()) - kept)]
        self.assertGreater(len(greatest), 5)
        for wanted in greatest:
            self.assertTrue(self.dealt_elsewise(tuple(sorted(wanted))), wanted)
        for forcing in read_sets(FORCING[3]):
            for part in parts_but_one(forcing):
                self.assertFalse(forces(3, part))


class WrongArguments(unittest.TestCase):
    def test_wrong_people(self):
        for value, function in product(wrong.PEOPLE, OF_PEOPLE):
            with self.subTest(value=value, function=function), self.assertRaises(BadPeople):
                function(value)
        for value, function, wanted in product(wrong.PEOPLE, WANTING, ((), ("core",), ("core", "best"), None, [[]])):
            with self.subTest(value=value, function=function), self.assertRaises(BadPeople):
                function(value, wanted)

    def test_wrong_axioms(self):
        for value, function, people in product(wrong.WANTED, WANTING, (2, 3)):
            with self.subTest(value=value, function=function), self.assertRaises(BadAxioms):
                function(people, value)

    def test_not_one_comes_last(self):
        with self.assertRaises(BadPeople):
            only_rule(4, ("core", "things"))
        with self.assertRaises(BadAxioms):
            only_rule(3, ("things", "core"))
        with self.assertRaises(NotOne):
            only_rule(3, ("core", "things"))


if __name__ == "__main__":
    unittest.main()

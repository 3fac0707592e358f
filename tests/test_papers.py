"""Points 11 and 12 of the document."""

import unittest
from itertools import product

import plain_papers
import plain_reference as plain
import wrong_values as wrong
from known_rules import CLASHES, FORCING, THREE, read_figures, read_sets
from dealclashes.axioms import profile
from dealclashes.errors import BadAxioms, BadDealing, BadPeople, BadRow, NotAlike
from dealclashes.maps import can_hold, greatest_sets, only_rule, rules_that_keep
from dealclashes.papers import never_paper, paper, shows_clash, shows_never
from dealclashes.rows import dealings, rows
from dealclashes.rules import dealt
from test_maps import ALL_SETS, parts_but_one

SAME_TWO, SAME = ((0, 1),) * 2, ((0, 1, 2),) * 3
KNOWN = {tuple(kept.split()): read_figures(figures) for kept, figures in THREE.items()}
OWN_TRUTHFUL = ("open", "own", "truthful")
# Wanted axioms, a row and a dealing of which the paper has papers in it.
DEEP = (
    (2, ("noboss", "things"), ((0, 1), (1, 0)), (0, 1)),
    (2, ("noboss", "things"), ((1, 0), (0, 1)), (1, 0)),
    (3, OWN_TRUTHFUL, ((1, 2, 0), (0, 2, 1), (0, 1, 2)), (0, 1, 2)),
    (3, OWN_TRUTHFUL, ((1, 2, 0), (0, 2, 1), (0, 1, 2)), (0, 2, 1)),
    (3, OWN_TRUTHFUL, ((2, 0, 1), (0, 2, 1), (0, 1, 2)), (0, 1, 2)),
)
# A dealing that is left for the row at first, but not by any rule: the first axiom makes dealings go against it.
LATER = (
    (2, "growing", ("open",), ((0, 1), (1, 0)), (1, 0)),
    (2, "names", ("things",), ((0, 1), (1, 0)), (0, 1)),
    (2, "things", ("best", "noboss"), ((0, 1), (0, 1)), (0, 1)),
    (2, "truthful", ("open",), ((1, 0), (0, 1)), (0, 1)),
    (3, "growing", ("first",), ((0, 1, 2), (0, 1, 2), (0, 2, 1)), (0, 2, 1)),
    (3, "growing", ("first",), ((0, 1, 2), (0, 1, 2), (1, 2, 0)), (1, 2, 0)),
    (3, "names", ("things",), ((0, 1, 2), (0, 1, 2), (0, 2, 1)), (0, 2, 1)),
    (3, "still", ("first",), ((0, 1, 2), (0, 1, 2), (1, 0, 2)), (1, 2, 0)),
    (3, "still", ("first",), ((0, 1, 2), (0, 1, 2), (2, 0, 1)), (1, 2, 0)),
    (3, "things", ("names",), ((0, 1, 2), (0, 1, 2), (0, 2, 1)), (0, 2, 1)),
    (3, "tops", ("own",), ((0, 1, 2), (0, 2, 1), (0, 1, 2)), (0, 2, 1)),
    (3, "tops", ("own",), ((0, 1, 2), (0, 2, 1), (1, 2, 0)), (0, 2, 1)),
    (3, "truthful", ("first",), ((0, 1, 2), (0, 1, 2), (0, 2, 1)), (0, 2, 1)),
    (3, "truthful", ("first",), ((0, 1, 2), (0, 1, 2), (2, 0, 1)), (0, 2, 1)),
)


def joined(*axioms):
    return tuple(sorted(axioms))


def nodes(value):
    return 1 + sum(nodes(part) for part in value[1]) if value else 1


def wrong_ends():
    """Values that can stand for no () that a paper has."""
    row = SAME
    return [
        None, True, False, 0, 1, "", "()", [], {}, [()], ((),), ((), ()), (None,), (SAME_TWO, ((), ())),
        (row, ()), (row, ((),) * 2), (row, ((),) * 3), (row, ((),) * 6), (row, [()] * 6), [row, ((),) * 6],
    ]


def wrong_nodes(value):
    """Values that can stand for no pair of a row and papers."""
    row, parts = value
    return [
        (), None, True, 0, "", {}, [], [row, parts], (row,), (row, parts, ()), (parts, row), parts, row,
        {row: parts}, (list(row), parts), (row, list(parts)), ([list(ranking) for ranking in row], parts),
        (tuple(list(ranking) for ranking in row), parts), (row, parts + ((),)), (row, parts[:-1]), (row, parts[1:]),
        (row, ()), (row, None), (row, True), (row, 0), (row, "()"), (row, {}), (None, parts), (0, parts),
        ("012 012 012", parts), ((), parts), ((True, False), parts), (row[:-1], parts), (row + (row[0],), parts),
        (tuple(tuple(bool(thing) if thing < 2 else thing for thing in ranking) for ranking in row), parts),
        (SAME_TWO if len(row) == 3 else SAME, parts), (((0, 1, 1),) * 3, parts),
    ]


def bent(value, single):
    """Values that differ from the paper in one place, at any depth, so that they are no papers.

    Only one dealing is left for the single row, if there is one.
    """
    if value == ():
        return wrong_ends()
    row, parts = value
    found = wrong_nodes(value)
    if single:
        found.extend([(single, (value,)), (single, parts), (single, parts[:1]), (single, ((),)), (single, ())])
    for at, part in enumerate(parts):
        # Below, one dealing is left for the row of this place.
        found.extend((row, parts[:at] + (other,) + parts[at + 1:]) for other in bent(part, row))
    return found


def with_other_rows(value, people):
    """The paper with other rows at its top."""
    return [(row, value[1]) for row in rows(people)[::11 if people == 3 else 1]]


class Examples(unittest.TestCase):
    def test_no_pair_is_needed(self):
        self.assertEqual(paper(3, ("notlast", "own")), ())
        self.assertIs(shows_clash(3, ("notlast", "own"), ()), True)
        self.assertIsNone(paper(2, ("own", "truthful")))

    def test_never(self):
        self.assertEqual(never_paper(2, ("core",), SAME_TWO, (1, 0)), ())
        self.assertIs(shows_never(2, ("core",), ((1, 0), (0, 1)), (1, 0), ()), False)
        self.assertIs(shows_never(3, ("own",), SAME, (1, 0, 2), ()), True)

    def test_papers_by_hand(self):
        self.assertIs(shows_clash(2, ("best", "noboss", "things"), (SAME_TWO, ((), ()))), True)
        self.assertIs(shows_clash(3, ("growing", "noboss", "things"), (SAME, ((),) * 6)), True)
        self.assertIs(shows_clash(3, ("growing", "open", "tops"), (((2, 0, 1),) * 3, ((),) * 6)), True)
        last, back = ((0, 1, 2), (0, 1, 2), (2, 0, 1)), ((0, 1, 2), (0, 1, 2), (2, 1, 0))
        one, two = ((0, 1, 2), (1, 0, 2), (0, 2, 1)), ((0, 1, 2), (1, 0, 2), (1, 2, 0))
        found = (last, ((back, ((one, ((), ())), ())), (back, ((), (two, ((), ()))))))
        self.assertIs(shows_clash(3, ("best", "noboss", "things", "truthful"), found), True)


class Clashes(unittest.TestCase):
    def test_each_least_clash_has_a_paper(self):
        for people in (2, 3):
            for clash in read_sets(CLASHES[people]):
                with self.subTest(people=people, clash=clash):
                    found = paper(people, clash)
                    self.assertIs(shows_clash(people, clash, found), True)
                    self.assertTrue(plain_papers.shows_clash(people, clash, found))

    def test_no_part_of_a_least_clash_has_one(self):
        for people in (2, 3):
            for clash in read_sets(CLASHES[people]):
                found = paper(people, clash)
                for part in parts_but_one(clash):
                    with self.subTest(people=people, part=part):
                        self.assertIsNone(paper(people, part))
                        self.assertIs(shows_clash(people, part, found), False)
                        self.assertIs(shows_clash(people, part, ()), False)

    def test_no_greatest_set_has_one(self):
        for people in (2, 3):
            others = [paper(people, clash) for clash in read_sets(CLASHES[people])[-6:]]
            for kept in greatest_sets(people):
                self.assertIsNone(paper(people, kept))
                for value in others + wrong_ends():
                    self.assertIs(shows_clash(people, kept, value), False)

    def test_some_of_all_sets(self):
        for people, step in ((2, 29), (3, 499)):
            for wanted in ALL_SETS[::step] + ALL_SETS[-1:]:
                found = paper(people, wanted)
                self.assertIs(found is None, can_hold(people, wanted), wanted)
                self.assertIs(shows_clash(people, wanted, found), found is not None)

    def test_papers_of_sets_around_a_clash(self):
        for clash in read_sets(CLASHES[3])[-7:]:
            for axiom in ("best", "first", "names", "own", "still"):
                wanted = joined(*set(clash + (axiom,)))
                found = paper(3, wanted)
                self.assertIs(shows_clash(3, wanted, found), True)
                self.assertTrue(plain_papers.shows_clash(3, wanted, found), wanted)

    def test_the_empty_set(self):
        for people in (2, 3):
            self.assertIsNone(paper(people, ()))
            self.assertIs(shows_clash(people, (), ()), False)


class BentPapers(unittest.TestCase):
    def check(self, people, clash):
        left = plain_papers.close(people, clash, plain_papers.at_first(people, clash))
        singles = [row for row in left if len(left[row]) == 1]
        for value in bent(paper(people, clash), singles[0] if singles else None):
            self.assertIs(shows_clash(people, clash, value), False, value)

    def test_two_people(self):
        for clash in read_sets(CLASHES[2]):
            self.check(2, clash)

    def test_three_people_at_the_end(self):
        for clash in (("best", "tops"), ("names", "things"), ("first", "tops", "truthful")):
            self.check(3, clash)

    def test_three_people_at_depth(self):
        for clash in (("growing", "open", "tops"), ("best", "noboss", "things", "truthful")):
            self.assertGreater(nodes(paper(3, clash)), 6)
            self.check(3, clash)

    def test_other_rows(self):
        for people, clash in (
            (2, ("growing", "noboss", "things")), (2, ("best", "noboss", "things")),
            (3, ("growing", "noboss", "things")), (3, ("first", "noboss", "things", "truthful")),
        ):
            found = paper(people, clash)
            answers = []
            for value in with_other_rows(found, people):
                answers.append(shows_clash(people, clash, value))
                self.assertIs(answers[-1], plain_papers.shows_clash(people, clash, value), value)
            if clash != ("growing", "noboss", "things"):
                self.assertIn(False, answers)

    def test_papers_of_other_clashes(self):
        clashes = read_sets(CLASHES[3])[-8:]
        papers = [paper(3, clash) for clash in clashes]
        for clash, value in product(clashes, papers):
            self.assertIs(shows_clash(3, clash, value), plain_papers.shows_clash(3, clash, value))

    def test_a_long_value(self):
        value = ()
        for row in rows(3):
            value = (row, (value,) * 6)
        for wanted in ((), ("open",), ("best", "truthful")):
            self.assertIs(shows_clash(3, wanted, value), False)
        for _ in range(5000):
            value = (SAME, (value,) * 6)
        self.assertIs(shows_clash(3, (), value), False)


class EachAxiom(unittest.TestCase):
    def test_those_that_strike_at_first(self):
        for axiom in plain_papers.AT_FIRST:
            for people, step in ((2, 1), (3, 43)):
                for row, dealing in product(rows(people)[::step], dealings(people)):
                    stands = plain.stands(axiom, {row: dealing}, row)
                    self.assertEqual(never_paper(people, (axiom,), row, dealing), None if stands else ())
                    self.assertIs(shows_never(people, (axiom,), row, dealing, ()), not stands)

    def test_each_strikes_some_dealing_at_first(self):
        row, dealing = ((1, 2, 0), (0, 2, 1), (2, 0, 1)), (2, 0, 1)
        swapped = ((1, 0, 2), (0, 1, 2), (2, 0, 1))
        cases = (
            ("best", swapped, (0, 1, 2)), ("core", swapped, (0, 1, 2)), ("first", swapped, (0, 1, 2)),
            ("notlast", row, (0, 1, 2)), ("own", row, (1, 2, 0)), ("sole", row, dealing),
            ("swapless", swapped, (0, 1, 2)),
        )
        self.assertEqual(tuple(axiom for axiom, _, _ in cases), plain_papers.AT_FIRST)
        for axiom, at, deal in cases:
            self.assertEqual(never_paper(3, (axiom,), at, deal), ())
            self.assertIsNone(never_paper(3, ("growing",), at, deal))

    def test_names_at_first(self):
        turned = ((0, 1, 2), (1, 2, 0), (2, 0, 1))
        for dealing in dealings(3):
            stays = dealing in ((0, 1, 2), (1, 2, 0), (2, 0, 1))
            self.assertEqual(never_paper(3, ("names",), turned, dealing), None if stays else ())
            self.assertIs(shows_never(3, ("names",), turned, dealing, ()), not stays)
        # The two first people and their things can be named anew alike.
        swapped = ((0, 1, 2), (1, 0, 2), (2, 0, 1))
        self.assertEqual(never_paper(3, ("names",), swapped, (1, 0, 2)), None)
        self.assertEqual(never_paper(3, ("names",), ((0, 1, 2), (1, 0, 2), (0, 1, 2)), (1, 0, 2)), None)
        for row, dealing in product(rows(3)[::29], dealings(3)):
            stays = plain_papers.stays_the_same(row, dealing)
            self.assertEqual(never_paper(3, ("names",), row, dealing), None if stays else ())

    def test_those_that_go_against_each_other(self):
        # For two people every rule keeps still and tops, so that nothing goes against anything by them.
        self.assertEqual({case[1] for case in LATER if case[0] == 2}, set(plain_papers.AGAINST) - {"still", "tops"})
        self.assertEqual({case[1] for case in LATER if case[0] == 3}, set(plain_papers.AGAINST))
        for people, axiom, others, row, dealing in LATER:
            wanted = joined(axiom, *others)
            with self.subTest(people=people, wanted=wanted, row=row):
                self.assertIn(dealing, plain_papers.at_first(people, wanted)[row])
                found = never_paper(people, wanted, row, dealing)
                self.assertEqual(found, ())
                self.assertIs(shows_never(people, wanted, row, dealing, found), True)
                self.assertIsNone(never_paper(people, others, row, dealing))
                self.assertIs(shows_never(people, others, row, dealing, ()), False)

    def test_each_makes_clashes_for_three_people(self):
        for axiom in plain_papers.AGAINST:
            clash = [clash for clash in read_sets(CLASHES[3]) if axiom in clash][-1]
            found = paper(3, clash)
            without = tuple(other for other in clash if other != axiom)
            self.assertIs(shows_clash(3, clash, found), True)
            self.assertIs(shows_clash(3, without, found), False)

    def test_what_is_closed_is_that_of_the_second_reading(self):
        for axiom in plain_papers.AGAINST:
            for other in ("best", "first", "own"):
                wanted = joined(axiom, other)
                left = plain_papers.close(3, wanted, plain_papers.at_first(3, wanted))
                if plain_papers.is_empty(3, wanted, left):
                    continue
                for row, dealing in list(product(rows(3), dealings(3)))[::53]:
                    struck = dealing not in left[row]
                    self.assertIs(shows_never(3, wanted, row, dealing, ()), struck, (wanted, row, dealing))

    def test_open(self):
        for people, row, dealing in ((2, SAME_TWO, (1, 0)), (3, SAME, (2, 0, 1))):
            wanted = ("growing", "open", "tops") if people == 3 else ("growing", "open")
            self.assertIsNone(never_paper(people, ("open",), row, dealing))
            self.assertIsNone(never_paper(people, ("growing", "tops"), row, dealing))
        self.assertEqual(never_paper(2, ("growing", "open"), ((0, 1), (1, 0)), (1, 0)), ())
        self.assertIsNone(never_paper(2, ("growing",), ((0, 1), (1, 0)), (1, 0)))
        self.assertIs(shows_clash(3, wanted, (SAME, ((),) * 6)), True)
        self.assertIs(shows_clash(3, ("growing", "tops"), (SAME, ((),) * 6)), False)

    def test_noboss(self):
        self.assertEqual(never_paper(2, ("best", "noboss", "things"), SAME_TWO, (0, 1)), ())
        self.assertIsNone(never_paper(2, ("best", "things"), SAME_TWO, (0, 1)))
        self.assertIsNone(never_paper(2, ("noboss",), SAME_TWO, (0, 1)))
        self.assertIs(shows_clash(3, ("growing", "noboss", "things"), (SAME, ((),) * 6)), True)
        self.assertIs(shows_clash(3, ("growing", "things"), (SAME, ((),) * 6)), False)


class Never(unittest.TestCase):
    def test_two_people_against_all_rules(self):
        for wanted in ALL_SETS[:150] + ALL_SETS[150::199]:
            rules = rules_that_keep(2, wanted)
            for row, dealing in product(rows(2), dealings(2)):
                found = never_paper(2, wanted, row, dealing)
                some = any(dealt(rule, row) == dealing for rule in rules)
                self.assertIs(found is None, some, (wanted, row, dealing))
                self.assertIs(shows_never(2, wanted, row, dealing, found), not some)
                if not some:
                    self.assertTrue(plain_papers.shows_never(2, wanted, row, dealing, found))

    def test_what_a_rule_deals(self):
        for kept, rule in KNOWN.items():
            for row in rows(3)[5::50]:
                dealing = dealt(rule, row)
                self.assertIsNone(never_paper(3, kept, row, dealing))
                self.assertIs(shows_never(3, kept, row, dealing, ()), False)

    def test_what_no_rule_deals_if_there_is_just_one(self):
        for forcing in read_sets(FORCING[3]):
            rule = only_rule(3, forcing)
            for row, dealing in product(rows(3)[17::90], dealings(3)):
                found = never_paper(3, forcing, row, dealing)
                self.assertIs(found is None, dealt(rule, row) == dealing)
                self.assertIs(shows_never(3, forcing, row, dealing, found), found is not None)
                if found is not None:
                    self.assertTrue(plain_papers.shows_never(3, forcing, row, dealing, found))

    def test_where_the_axioms_clash(self):
        for people, clash in ((2, ("best", "noboss", "things")), (3, ("noboss", "still", "things", "truthful"))):
            for row, dealing in product(rows(people)[::40], dealings(people)):
                found = never_paper(people, clash, row, dealing)
                self.assertIs(shows_never(people, clash, row, dealing, found), True)
                self.assertTrue(plain_papers.shows_never(people, clash, row, dealing, found))

    def test_papers_with_papers_in_them(self):
        for people, wanted, row, dealing in DEEP:
            found = never_paper(people, wanted, row, dealing)
            self.assertGreater(nodes(found), 2)
            self.assertTrue(plain_papers.shows_never(people, wanted, row, dealing, found))
            self.assertIs(shows_never(people, wanted, row, dealing, found), True)
            self.assertIs(shows_clash(people, wanted, found), False)
            # Only the dealing asked for is left for the row itself.
            for value in bent(found, row):
                self.assertIs(shows_never(people, wanted, row, dealing, value), False, value)

    def test_bent_where_the_dealing_is_not_left(self):
        for value in wrong_ends():
            self.assertIs(shows_never(3, ("own",), SAME, (1, 0, 2), value), False)
            self.assertIs(shows_never(2, ("core",), SAME_TWO, (1, 0), value), False)
            self.assertIs(shows_never(3, ("own",), SAME, (0, 1, 2), value), False)

    def test_many_choices_before_a_rule_is_found(self):
        row = ((1, 2, 0), (2, 0, 1), (0, 1, 2))
        for wanted in (("open", "truthful"), ("still",), (), ("noboss",)):
            self.assertIsNone(never_paper(3, wanted, row, (0, 1, 2)))


class WrongArguments(unittest.TestCase):
    def test_wrong_people(self):
        for value in wrong.PEOPLE:
            for call in (
                lambda: paper(value, ()), lambda: paper(value, None), lambda: shows_clash(value, ("core", "best"), ()),
                lambda: shows_clash(value, (), ()), lambda: never_paper(value, (), SAME, (0, 1, 2)),
                lambda: never_paper(value, 1, 1, 1), lambda: shows_never(value, (), SAME, (0, 1, 2), ()),
                lambda: shows_never(value, None, None, None, None),
            ):
                with self.subTest(value=value), self.assertRaises(BadPeople):
                    call()

    def test_wrong_axioms(self):
        for value in wrong.WANTED:
            for call in (
                lambda: paper(2, value), lambda: paper(3, value), lambda: shows_clash(3, value, ()),
                lambda: never_paper(3, value, SAME, (0, 1, 2)), lambda: never_paper(2, value, None, None),
                lambda: shows_never(2, value, SAME_TWO, (0, 1), ()), lambda: shows_never(3, value, SAME_TWO, (0, 0), ()),
            ):
                with self.subTest(value=value), self.assertRaises(BadAxioms):
                    call()

    def test_wrong_row(self):
        for people, value in product((2, 3), wrong.ROWS):
            for dealing in ((0, 1), (0, 1, 2), (0, 0), None):
                with self.subTest(value=value), self.assertRaises(BadRow):
                    never_paper(people, ("core",), value, dealing)
                with self.subTest(value=value), self.assertRaises(BadRow):
                    shows_never(people, ("core",), value, dealing, ())

    def test_wrong_dealing(self):
        for people, value, row in product((2, 3), wrong.DEALINGS, (SAME_TWO, SAME)):
            with self.subTest(value=value), self.assertRaises(BadDealing):
                never_paper(people, ("core",), row, value)
            with self.subTest(value=value), self.assertRaises(BadDealing):
                shows_never(people, ("core",), row, value, ())

    def test_not_alike(self):
        for people, row, dealing in (
            (2, SAME, (0, 1)), (2, SAME_TWO, (0, 1, 2)), (2, SAME, (0, 1, 2)),
            (3, SAME_TWO, (0, 1, 2)), (3, SAME, (0, 1)), (3, SAME_TWO, (0, 1)),
        ):
            with self.subTest(people=people, row=row), self.assertRaises(NotAlike):
                never_paper(people, ("core",), row, dealing)
            with self.subTest(people=people, row=row), self.assertRaises(NotAlike):
                shows_never(people, ("core",), row, dealing, ())

    def test_no_value_is_an_error(self):
        for value in wrong.ROWS + wrong.DEALINGS + wrong.PEOPLE:
            for people, wanted in ((2, ("core", "things")), (2, ("best", "noboss", "things"))):
                self.assertIs(shows_clash(people, wanted, value), value == () and "core" in wanted)
        for value in wrong.OTHERS:
            self.assertIs(shows_clash(3, ("core", "things"), value), value == ())
            self.assertIs(shows_never(3, ("own",), SAME, (1, 0, 2), value), value == ())
            self.assertIs(shows_never(3, ("own",), SAME, (0, 1, 2), value), False)

    def test_arguments_stay_as_they_were(self):
        value = [SAME, [[], {}]]
        self.assertIs(shows_clash(3, ("growing", "open", "tops"), value), False)
        self.assertIs(shows_never(3, ("own",), SAME, (1, 0, 2), value), False)
        self.assertEqual(value, [SAME, [[], {}]])


class Profiles(unittest.TestCase):
    def test_the_rule_behind_a_missing_paper_keeps_the_axioms(self):
        for kept, rule in KNOWN.items():
            self.assertEqual(profile(rule), kept)
            self.assertIsNone(paper(3, kept))


if __name__ == "__main__":
    unittest.main()

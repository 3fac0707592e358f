"""What holds for the whole package ([1] of the document), and the sizes of its files."""

import ast
import unittest
from copy import deepcopy
from itertools import product
from pathlib import Path

import wrong_values as wrong
from dealclashes import axioms, desks, errors, maps, papers, rows, rules, texts

FOLDER = Path(__file__).resolve().parent.parent / "dealclashes"
SAME = ((0, 1, 2),) * 3
KEEP = (0,) * 216
OPEN = ("growing", "open", "own")

# Each function of the interface with arguments that are right, for which an answer is returned.
CALLS = (
    (rows.dealings, (3,)), (rows.rows, (3,)), (rows.better, (SAME, (0, 1, 2))),
    (rows.blocking_group, (SAME, (1, 0, 2))), (rules.count_people, (KEEP,)), (rules.dealt, (KEEP, SAME)),
    (rules.bosses, (KEEP,)), (rules.lies, (KEEP, SAME, 0)), (rules.names, ()), (rules.told_rule, ("keep", 3)),
    (axioms.axioms, ()), (axioms.keeps, (KEEP, "best")), (axioms.breaking_row, (KEEP, "best")),
    (axioms.profile, (KEEP,)),
    (maps.can_hold, (3, OPEN)), (maps.some_rule, (3, OPEN)), (maps.forces, (3, OPEN)), (maps.only_rule, (3, OPEN)),
    (maps.can_add, (3, OPEN)), (maps.greatest_sets, (3,)), (maps.least_clashes, (3,)), (maps.clashes, (3, OPEN)),
    (maps.least_forcing, (3,)), (maps.forcings, (3, OPEN)), (maps.rules_that_keep, (2, OPEN)),
    (papers.paper, (3, OPEN)), (papers.shows_clash, (3, OPEN, ())),
    (papers.never_paper, (3, OPEN, SAME, (1, 0, 2))), (papers.shows_never, (3, OPEN, SAME, (1, 0, 2), ())),
    (texts.write_row, (SAME,)), (texts.read_row, ("01 10",)), (texts.write_rule, (KEEP,)),
    (texts.read_rule, ("0010",)),
)
FILES = {
    "rows": rows, "rules": rules, "axioms": axioms, "maps": maps, "papers": papers, "texts": texts, "desks": desks,
}
MODULES = {
    "rows": ("dealings", "rows", "better", "blocking_group"),
    "rules": ("count_people", "dealt", "bosses", "lies", "names", "told_rule"),
    "axioms": ("axioms", "profile", "keeps", "breaking_row"),
    "maps": (
        "can_hold", "some_rule", "forces", "only_rule", "can_add", "greatest_sets", "least_clashes", "clashes",
        "least_forcing", "forcings", "rules_that_keep",
    ),
    "papers": ("paper", "shows_clash", "never_paper", "shows_never"),
    "texts": ("write_row", "read_row", "write_rule", "read_rule"),
}
VALUES = (
    None, True, False, -1, 0, 1, 2, 3, 2 ** 90, "", "best", "keep", (), [], {}, [0, 1], (0, 1), (0, 1, 2), SAME,
    [[0, 1], [1, 0]], ([0, 1], [1, 0]), {"best": [1]}, (0, 0, 1, 0), [0, 0, 1, 0], KEEP, [0] * 216, ([0],) * 4,
    (False,) * 4, ((True, False), (0, 1)), ((((),),),), ({0: []}, [{}]), ("best", "core"), ["best", "core"],
    ("core", "best"), ("best", ["core"]), ("open",), "01 10", "0010", "012", "row", (SAME, ((),) * 6), [SAME, []],
)


class WholePackage(unittest.TestCase):
    def test_each_function_is_defined_in_its_file(self):
        for module, functions in MODULES.items():
            for name in functions:
                function = getattr(FILES[module], name)
                self.assertEqual((function.__module__, function.__name__), (f"dealclashes.{module}", name))
        self.assertEqual(len(CALLS), sum(len(functions) for functions in MODULES.values()))

    def test_the_desk_is_defined_in_its_file(self):
        self.assertEqual(desks.Desk.__module__, "dealclashes.desks")
        for name in ("run", "undo", "row"):
            self.assertIn(name, vars(desks.Desk))

    def test_the_same_call_has_the_same_answer(self):
        for function, arguments in CALLS:
            self.assertEqual(function(*arguments), function(*arguments))

    def test_any_value_gives_an_answer_or_an_error_of_the_package(self):
        for (function, arguments), value in product(CALLS, VALUES):
            for at in range(len(arguments)):
                tried = list(arguments)
                tried[at] = deepcopy(value)
                try:
                    function(*tried)
                except errors.DealError:
                    pass
                self.assertEqual(tried[at], value)
                self.assertEqual(repr(tried[at]), repr(value))

    def test_a_desk_and_any_value(self):
        desk = desks.Desk(3)
        for value in VALUES:
            kept = deepcopy(value)
            for call in (desks.Desk, desk.run):
                try:
                    call(value)
                except errors.DealError:
                    pass
            self.assertEqual(repr(value), repr(kept))
        self.assertEqual(desk.row, SAME)

    def test_answers_are_of_the_kinds_listed(self):
        for name, kind in (
            ("can_hold", bool), ("forces", bool), ("some_rule", tuple), ("only_rule", tuple), ("can_add", tuple),
            ("greatest_sets", tuple), ("least_clashes", tuple), ("clashes", tuple), ("least_forcing", tuple),
            ("forcings", tuple), ("rules_that_keep", tuple), ("shows_clash", bool), ("shows_never", bool),
            ("write_row", str), ("write_rule", str), ("read_row", tuple), ("read_rule", tuple),
        ):
            (found,) = [function(*arguments) for function, arguments in CALLS if function.__name__ == name]
            self.assertIs(type(found), kind, name)

    def test_items_are_integers_and_not_booleans(self):
        for rule in maps.rules_that_keep(2, ()) + (maps.some_rule(2, ()), maps.some_rule(3, OPEN)):
            self.assertTrue(all(type(number) is int for number in rule))

    def test_the_first_wrong_argument_is_told_of(self):
        first = {
            rows.better: errors.BadRow, rows.blocking_group: errors.BadRow, rules.dealt: errors.BadRule,
            rules.lies: errors.BadRule, rules.told_rule: errors.BadName, axioms.keeps: errors.BadRule,
            axioms.breaking_row: errors.BadRule, papers.shows_clash: errors.BadPeople,
            papers.never_paper: errors.BadPeople, papers.shows_never: errors.BadPeople,
            maps.only_rule: errors.BadPeople, maps.rules_that_keep: errors.BadPeople,
            maps.some_rule: errors.BadPeople, papers.paper: errors.BadPeople,
        }
        for (function, error), value in product(first.items(), wrong.OTHERS):
            if function == rules.told_rule and value == "keep":
                continue
            many = len(dict(CALLS)[function])
            with self.subTest(function=function, value=value), self.assertRaises(error):
                function(*(value,) * many)


class Sizes(unittest.TestCase):
    def test_the_folder_contains_plain_files_only(self):
        found = [path for path in FOLDER.iterdir() if path.name != "__pycache__"]
        self.assertTrue(all(path.suffix == ".py" and path.name == path.name.lower() for path in found))

    def test_files_lines_and_functions_are_short(self):
        for path in FOLDER.glob("*.py"):
            text = path.read_text("utf-8")
            lines = text.splitlines()
            self.assertLess(len(lines), 400, path)
            self.assertTrue(all(len(line) <= 120 for line in lines), path)
            self.assertTrue(all(" " <= sign <= "~" or sign == "\n" for sign in text), path)
            for node in ast.walk(ast.parse(text)):
                if isinstance(node, ast.FunctionDef):
                    self.assertLessEqual(node.end_lineno - node.lineno + 1, 40, (path, node.name))


if __name__ == "__main__":
    unittest.main()

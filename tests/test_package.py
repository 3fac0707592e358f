"""What holds for the whole package ([1] of the document), and the sizes of its files."""

import ast
import unittest
from copy import deepcopy
from itertools import product
from pathlib import Path

import wrong_values as wrong
from dealclashes import axioms, errors, rows, rules

FOLDER = Path(__file__).resolve().parent.parent / "dealclashes"
SAME = ((0, 1, 2),) * 3
KEEP = (0,) * 216

# Each function of the interface with arguments that are right, for which an answer is returned.
CALLS = (
    (rows.dealings, (3,)), (rows.rows, (3,)), (rows.better, (SAME, (0, 1, 2))),
    (rows.blocking_group, (SAME, (1, 0, 2))), (rules.count_people, (KEEP,)), (rules.dealt, (KEEP, SAME)),
    (rules.bosses, (KEEP,)), (rules.lies, (KEEP, SAME, 0)), (rules.names, ()), (rules.told_rule, ("keep", 3)),
    (axioms.axioms, ()), (axioms.keeps, (KEEP, "best")), (axioms.breaking_row, (KEEP, "best")),
    (axioms.profile, (KEEP,)),
)
MODULES = {
    "rows": ("dealings", "rows", "better", "blocking_group"),
    "rules": ("count_people", "dealt", "bosses", "lies", "names", "told_rule"),
    "axioms": ("axioms", "profile", "keeps", "breaking_row"),
}
VALUES = (
    None, True, False, -1, 0, 1, 2, 3, 2 ** 90, "", "best", "keep", (), [], {}, [0, 1], (0, 1), (0, 1, 2), SAME,
    [[0, 1], [1, 0]], ([0, 1], [1, 0]), {"best": [1]}, (0, 0, 1, 0), [0, 0, 1, 0], KEEP, [0] * 216, ([0],) * 4,
    (False,) * 4, ((True, False), (0, 1)), ((((),),),), ({0: []}, [{}]),
)


class WholePackage(unittest.TestCase):
    def test_each_function_is_defined_in_its_file(self):
        for module, functions in MODULES.items():
            for name in functions:
                function = getattr({"rows": rows, "rules": rules, "axioms": axioms}[module], name)
                self.assertEqual((function.__module__, function.__name__), (f"dealclashes.{module}", name))
        self.assertEqual(len(CALLS), sum(len(functions) for functions in MODULES.values()))

    def test_the_same_call_has_the_same_answer(self):
        for function, arguments in CALLS:
            self.assertEqual(function(*arguments), function(*arguments))

    def test_any_value_gives_an_answer_or_an_error_of_the_package(self):
        for (function, arguments), value in product(CALLS, VALUES):
            for at in range(len(arguments)):
                tried = list(arguments)
                tried[at] = deepcopy(value)
                try:
                    function(*tried)
                except errors.DealError:
                    pass
                self.assertEqual(tried[at], value)
                self.assertEqual(repr(tried[at]), repr(value))

    def test_the_first_wrong_argument_is_told_of(self):
        first = {
            rows.better: errors.BadRow, rows.blocking_group: errors.BadRow, rules.dealt: errors.BadRule,
            rules.lies: errors.BadRule, rules.told_rule: errors.BadName, axioms.keeps: errors.BadRule,
            axioms.breaking_row: errors.BadRule,
        }
        for (function, error), value in product(first.items(), wrong.OTHERS):
            if function == rules.told_rule and value == "keep":
                continue
            many = len(dict(CALLS)[function])
            with self.subTest(function=function, value=value), self.assertRaises(error):
                function(*(value,) * many)


class Sizes(unittest.TestCase):
    def test_the_folder_contains_plain_files_only(self):
        found = [path for path in FOLDER.iterdir() if path.name != "__pycache__"]
        self.assertTrue(all(path.suffix == ".py" and path.name == path.name.lower() for path in found))

    def test_files_lines_and_functions_are_short(self):
        for path in FOLDER.glob("*.py"):
            text = path.read_text("utf-8")
            lines = text.splitlines()
            self.assertLess(len(lines), 400, path)
            self.assertTrue(all(len(line) <= 120 for line in lines), path)
            self.assertTrue(all(" " <= sign <= "~" or sign == "\n" for sign in text), path)
            for node in ast.walk(ast.parse(text)):
                if isinstance(node, ast.FunctionDef):
                    self.assertLessEqual(node.end_lineno - node.lineno + 1, 40, (path, node.name))


if __name__ == "__main__":
    unittest.main()

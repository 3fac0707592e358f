"""The examples of the document's interface and those of README.md, answer for answer."""

import unittest
from pathlib import Path

from dealclashes import errors

# As they stand under the headings of the document.
EXAMPLES = {
    "errors": "",
    "rows": """
>>> from dealclashes.rows import better, blocking_group, dealings, rows
>>> row = ((1, 2, 0), (1, 0, 2), (2, 0, 1))
>>> [dealings(2), [len(rows(people)) for people in (2, 3)], dealings(3)[3]]
[((0, 1), (1, 0)), [4, 216], (1, 2, 0)]
>>> [better(row, (0, 1, 2)), better(row, (2, 1, 0)), blocking_group(row, (1, 0, 2)), blocking_group(row, (0, 1, 2))]
[(), (), (1,), None]
>>> better(row, (0, 1))
raises NotAlike
""",
    "rules": """
>>> from dealclashes.rules import bosses, count_people, dealt, lies, names, told_rule
>>> row = ((1, 2, 0), (1, 0, 2), (2, 0, 1))
>>> [dealt(told_rule(name, 3), row) for name in names()]
[(1, 0, 2), (0, 1, 2), (0, 1, 2), (1, 0, 2)]
>>> [told_rule("rings", 2), count_people(told_rule("keep", 2)), bosses(told_rule("turns", 3)), \
lies(told_rule("asks", 3), ((0, 1, 2), (0, 1, 2), (1, 0, 2)), 1)]
[(0, 0, 1, 0), 2, (0,), ((1, 0, 2), (1, 2, 0))]
>>> told_rule("swap", 3)
raises BadName
""",
    "axioms": """
>>> from dealclashes.axioms import axioms, breaking_row, keeps, profile
>>> trade, back = (0, 0, 1, 0), (1, 1, 0, 0)
>>> [len(axioms()), profile(back), keeps(trade, "core"), keeps(trade, "things")]
[15, ('noboss', 'open', 'still', 'things', 'tops'), True, False]
>>> [breaking_row(back, "own"), breaking_row((0, 0, 0, 0), "open"), breaking_row((0, 0, 1, 1), "noboss"), \
breaking_row(trade, "best")]
[((0, 1), (0, 1)), (), (), None]
>>> keeps(trade, "fair")
raises BadAxiom
""",
    "maps": """
>>> from dealclashes.maps import can_add, can_hold, clashes, forces, forcings, greatest_sets, least_clashes, \
least_forcing, only_rule, rules_that_keep, some_rule
>>> [can_hold(3, ("best", "noboss", "things", "truthful")), can_hold(3, ("best", "noboss", "truthful")), \
forces(3, ("best", "own", "truthful")), forces(3, ("best", "truthful"))]
[False, True, True, False]
>>> [[len(least_clashes(people)) for people in (2, 3)], [len(least_forcing(people)) for people in (2, 3)], \
[len(greatest_sets(people)) for people in (2, 3)]]
[[10, 26], [7, 17], [3, 11]]
>>> [clashes(3, ("core", "own", "things")), forcings(3, ("best", "own", "truthful")), \
some_rule(2, ("names", "things")), only_rule(2, ("core",))]
[(('core', 'things'), ('own', 'things')), (('best', 'own', 'truthful'),), None, (0, 0, 1, 0)]
>>> [rules_that_keep(2, ("core",)), len(rules_that_keep(2, ("truthful",))), can_add(2, ("noboss", "things"))]
[((0, 0, 1, 0),), 6, ('open', 'still', 'tops')]
>>> only_rule(3, ("best", "truthful"))
raises NotOne
""",
    "papers": """
>>> from dealclashes.papers import never_paper, paper, shows_clash, shows_never
>>> [paper(3, ("notlast", "own")), shows_clash(3, ("notlast", "own"), ()), paper(2, ("own", "truthful"))]
[(), True, None]
>>> [never_paper(2, ("core",), ((0, 1), (0, 1)), (1, 0)), \
shows_never(2, ("core",), ((1, 0), (0, 1)), (1, 0), ()), shows_never(3, ("own",), ((0, 1, 2),) * 3, (1, 0, 2), ())]
[(), False, True]
>>> paper(4, ())
raises BadPeople
""",
    "texts": """
>>> from dealclashes.texts import read_row, read_rule, write_row, write_rule
>>> [write_row(((0, 1, 2), (2, 1, 0), (0, 2, 1))), read_row("01 10"), write_rule((0, 0, 1, 1)), read_rule("0110")]
['012 210 021', ((0, 1), (1, 0)), '0011', (0, 1, 1, 0)]
>>> read_row("01 012")
raises InvalidText
""",
    "desks": """
>>> from dealclashes.desks import Desk
>>> desk = Desk(3)
>>> [desk.run(line) for line in ("0 120", "1 201", "2 012", "row", "rings", "better keep", "lies turns 1")]
[None, None, None, '120 201 012', '120', '021 102 120 201 210', 'none']
>>> [desk.undo(), desk.run("turns"), desk.row]
[None, '120', ((1, 2, 0), (2, 0, 1), (0, 1, 2))]
>>> desk.run("3 012")
raises InvalidText
""",
}
README = Path(__file__).resolve().parent.parent / "README.md"


def run_examples(case, text):
    """Check each answer of a text of examples; the names stay known throughout it."""
    names = {}
    lines = text.strip().splitlines()
    for at, line in enumerate(lines):
        if not line.startswith(">>> "):
            continue
        source = line[4:]
        answer = lines[at + 1] if at + 1 < len(lines) else ">>> "
        if answer.startswith(">>> "):
            exec(source, names)
        elif answer.startswith("raises "):
            with case.assertRaises(getattr(errors, answer[7:])):
                eval(source, names)
        else:
            case.assertEqual(repr(eval(source, names)), answer)


class Interface(unittest.TestCase):
    def test_under_the_eight_headings(self):
        self.assertEqual(len(EXAMPLES), 8)
        for heading, text in EXAMPLES.items():
            with self.subTest(heading=heading):
                run_examples(self, text)

    def test_an_example_that_is_wrong_fails(self):
        for text in (">>> 1 + 1\n3", ">>> 1 + 1\nraises BadRow"):
            with self.assertRaises(AssertionError):
                run_examples(self, text)


class Readme(unittest.TestCase):
    def test_its_examples(self):
        parts = README.read_text("utf-8").split("```\n")
        # The names of each module are imported at the top of its part.
        examples = [part for part in parts[1::2] if part.startswith(">>> ")]
        self.assertEqual(len(examples), 7)
        for text in examples:
            run_examples(self, text)


if __name__ == "__main__":
    unittest.main()

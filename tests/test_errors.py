import unittest

from dealclashes import errors

PLAIN = (
    "BadPeople", "BadRow", "BadDealing", "BadName", "BadPerson", "BadAxiom", "BadAxioms",
    "NotAlike", "NotOne", "NotText", "InvalidText", "NothingToUndo",
)


class ErrorClasses(unittest.TestCase):
    def test_base_is_a_direct_subclass_of_value_error(self):
        self.assertEqual(errors.DealError.__bases__, (ValueError,))

    def test_all_are_direct_subclasses_of_deal_error(self):
        for name in PLAIN + ("BadRule",):
            with self.subTest(name=name):
                self.assertEqual(getattr(errors, name).__bases__, (errors.DealError,))

    def test_they_are_defined_in_their_file(self):
        for name in PLAIN + ("BadRule", "DealError"):
            self.assertEqual(getattr(errors, name).__module__, "dealclashes.errors")

    def test_bad_rule_has_its_index(self):
        for index in (None, 0, 215):
            self.assertEqual(errors.BadRule(index).index, index)
            self.assertEqual(vars(errors.BadRule(index)), {"index": index})

    def test_the_others_have_no_fields(self):
        for name in PLAIN:
            self.assertEqual(vars(getattr(errors, name)("why")), {})


if __name__ == "__main__":
    unittest.main()

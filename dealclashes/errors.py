"""The errors of the package: all are direct subclasses of DealError."""


class DealError(ValueError):
    """The base class of all errors of the package."""


class BadPeople(DealError):
    """A number of people that is not 2 or 3."""


class BadRow(DealError):
    """A value that is no row for 2 or 3 people."""


class BadDealing(DealError):
    """A value that is no dealing for 2 or 3 people."""


class BadName(DealError):
    """A value that is not the name of a told rule."""


class BadPerson(DealError):
    """A value that is not one of the people."""


class BadAxiom(DealError):
    """A value that is not the name of an axiom."""


class BadAxioms(DealError):
    """A value that is no ascending tuple of different axioms."""


class NotAlike(DealError):
    """Arguments that are not for the same number of people."""


class NotOne(DealError):
    """Axioms that no rule keeps, or several rules."""


class NotText(DealError):
    """A value that is no string."""


class InvalidText(DealError):
    """A string that is not such a text."""


class NothingToUndo(DealError):
    """There is no line to take back."""


class BadRule(DealError):
    """A value that is no rule.

    The field index is None for no tuple of 4 or 216 items, otherwise
    that of the first item that is not the number of a dealing.
    """

    def __init__(self, index):
        super().__init__("not a rule")
        self.index = index

"""Wanted axioms: how they are checked and put together (point 8)."""

from dealclashes.axioms import axioms
from dealclashes.checks import check_people
from dealclashes.errors import BadAxioms


def is_wanted(value):
    """Return whether the value is an ascending tuple of different axioms."""
    if not isinstance(value, tuple) or not all([axiom in axioms() for axiom in value]):
        return False
    return list(value) == sorted(set(value))


def check_wanted(people, wanted):
    """Raise BadPeople or BadAxioms unless axioms are wanted of a rule for 2 or 3 people."""
    check_people(people)
    if not is_wanted(wanted):
        raise BadAxioms("wanted axioms are an ascending tuple of different axioms")


def lie_in(part, whole):
    """Return whether all axioms of the one tuple are in the other one."""
    return all([axiom in whole for axiom in part])


def with_one(wanted, axiom):
    """Return the wanted axioms with one more."""
    return tuple(sorted(wanted + (axiom,)))


def without_one(wanted, axiom):
    """Return the wanted axioms but this one."""
    return tuple([other for other in wanted if other != axiom])

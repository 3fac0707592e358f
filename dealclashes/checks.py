"""Checks of arguments: each one raises the error that is named for a wrong value."""

from dealclashes.errors import BadDealing, BadPeople, BadPerson, BadRow, BadRule, NotAlike, NotText

PEOPLE = (2, 3)
# The number of dealings that a rule chooses from, by the number of its items.
CHOICES = {4: 2, 216: 6}


def is_below(value, limit):
    """Return whether the value is an integer from 0 on that is below the limit."""
    # True and False equal 1 and 0 in Python, but are not integers here.
    return type(value) is int and 0 <= value < limit


def is_order(value, many):
    """Return whether the value is a tuple of so many things, each of them once."""
    if not isinstance(value, tuple) or len(value) != many:
        return False
    return all([is_below(thing, many) for thing in value]) and len(set(value)) == many


def check_people(people):
    """Raise BadPeople unless there are 2 or 3 people."""
    if type(people) is not int or people not in PEOPLE:
        raise BadPeople("there are 2 or 3 people")


def is_row(value, people):
    """Return whether the value is a row for so many people."""
    if not isinstance(value, tuple) or len(value) != people:
        return False
    return all([is_order(ranking, people) for ranking in value])


def check_row(row):
    """Raise BadRow unless the value is a row for 2 or 3 people."""
    if not any([is_row(row, people) for people in PEOPLE]):
        raise BadRow("a row is a tuple of 2 or 3 rankings, each a tuple of all things")


def check_dealing(dealing):
    """Raise BadDealing unless the value is a dealing for 2 or 3 people."""
    if not isinstance(dealing, tuple) or len(dealing) not in PEOPLE:
        raise BadDealing("a dealing is a tuple of 2 or 3 things")
    if not is_order(dealing, len(dealing)):
        raise BadDealing("a dealing has each thing once")


def check_rule(rule):
    """Raise BadRule unless the value is a rule for 2 or 3 people."""
    if not isinstance(rule, tuple) or len(rule) not in CHOICES:
        raise BadRule(None)
    for index, number in enumerate(rule):
        if not is_below(number, CHOICES[len(rule)]):
            raise BadRule(index)


def check_alike(people, others):
    """Raise NotAlike unless both numbers of people are the same."""
    if people != others:
        raise NotAlike("the arguments are for different numbers of people")


def check_person(person, people):
    """Raise BadPerson unless the value is one of so many people."""
    if not is_below(person, people):
        raise BadPerson("the people are numbered from 0")


def check_text(text):
    """Raise NotText unless the value is a string."""
    if not isinstance(text, str):
        raise NotText("a text is a string")

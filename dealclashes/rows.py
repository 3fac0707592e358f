"""Rows of rankings, dealings, and which dealings people like better (points 2 and 3)."""

from itertools import combinations, permutations

from dealclashes.checks import check_alike, check_dealing, check_people, check_row


def dealings(people):
    """Return the ascending tuple of all dealings for so many people."""
    check_people(people)
    return tuple(permutations(range(people)))


def rows(people):
    """Return the ascending tuple of all rows for so many people."""
    # A ranking is, like a dealing, a tuple of each thing once.
    return tuple(rows_of([list(dealings(people))] * people))


def rows_of(choices):
    """Return the list of the rows that take each person's ranking from its list, in order."""
    found = [()]
    for rankings in choices:
        found = [row + (ranking,) for row in found for ranking in rankings]
    return found


def replaced(row, person, ranking):
    """Return the row in which the person has another ranking and all others keep theirs."""
    return row[:person] + (ranking,) + row[person + 1:]


def is_better(row, group, dealing, other):
    """Return whether the dealing is better than the other one at the row for the group."""
    changed = False
    for person in group:
        ranking = row[person]
        if ranking.index(dealing[person]) > ranking.index(other[person]):
            return False
        if dealing[person] != other[person]:
            changed = True
    return changed


def better(row, dealing):
    """Return the ascending tuple of the dealings that are better for all people as a group."""
    check_row(row)
    check_dealing(dealing)
    check_alike(len(row), len(dealing))
    everybody = tuple(range(len(row)))
    return tuple([other for other in dealings(len(row)) if is_better(row, everybody, other, dealing)])


def groups(people):
    """Return the list of all groups of people, the smaller ones first."""
    return [group for size in range(1, people + 1) for group in combinations(range(people), size)]


def is_within(group, dealing):
    """Return whether all others get their own things, so that the group deals its own among itself."""
    return all([person in group or thing == person for person, thing in enumerate(dealing)])


def blocks(row, group, dealing):
    """Return whether the group does better by dealing its own things among itself."""
    for other in dealings(len(row)):
        if is_within(group, other) and is_better(row, group, other, dealing):
            return True
    return False


def blocking_group(row, dealing):
    """Return the first group that blocks the dealing at the row, None if there is none."""
    check_row(row)
    check_dealing(dealing)
    check_alike(len(row), len(dealing))
    for group in groups(len(row)):
        if blocks(row, group, dealing):
            return group
    return None

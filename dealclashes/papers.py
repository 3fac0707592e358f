"""Papers: there is no rule, or none that deals so at a row (points 11 and 12)."""

from dealclashes.checks import check_alike, check_dealing, check_row, is_row
from dealclashes.grounds import Ground
from dealclashes.masks import numbers_in
from dealclashes.rows import dealings
from dealclashes.searches import closed, fixed, is_empty, narrowed, search
from dealclashes.wanted import check_wanted


def paper(people, wanted):
    """Return a paper that no rule keeps all wanted axioms, None if some rule does."""
    check_wanted(people, wanted)
    ground = Ground(people, wanted)
    return search(ground, closed(ground, ground.first))[0]


def shows_clash(people, wanted, value):
    """Return whether the value is a paper that no rule keeps all wanted axioms."""
    check_wanted(people, wanted)
    ground = Ground(people, wanted)
    return is_paper(ground, closed(ground, ground.first), value)


def never_paper(people, wanted, row, dealing):
    """Return a paper that no rule with the wanted axioms deals so at the row, None if some rule does."""
    check_never(people, wanted, row, dealing)
    ground = Ground(people, wanted)
    return search(ground, left_if_dealt(ground, row, dealing))[0]


def shows_never(people, wanted, row, dealing, value):
    """Return whether the value is a paper that no rule with the wanted axioms deals so at the row."""
    check_never(people, wanted, row, dealing)
    ground = Ground(people, wanted)
    return is_paper(ground, left_if_dealt(ground, row, dealing), value)


def check_never(people, wanted, row, dealing):
    """Raise the error for the first wrong argument, NotAlike if all are right but for other people."""
    check_wanted(people, wanted)
    check_row(row)
    check_dealing(dealing)
    check_alike(people, len(row))
    check_alike(people, len(dealing))


def left_if_dealt(ground, row, dealing):
    """Return what is left at first and closed with only the dealing left for the row."""
    mask = 1 << dealings(ground.people).index(dealing)
    return closed(ground, fixed(ground.first, ground.places[row], mask))


def is_paper(ground, left, value):
    """Return whether the value is a paper for what is left and closed."""
    if is_empty(ground, left):
        return value == ()
    if not isinstance(value, tuple) or len(value) != 2 or not is_row(value[0], ground.people):
        return False
    place = ground.places[value[0]]
    numbers = numbers_in(left[place])
    parts = value[1]
    if len(numbers) < 2 or not isinstance(parts, tuple) or len(parts) != len(numbers):
        return False
    for number, part in zip(numbers, parts):
        if not is_paper(ground, narrowed(ground, left, place, number), part):
            return False
    return True

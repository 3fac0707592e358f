"""The fifteen axioms, and which of them a rule keeps (points 6 and 7).

Seven axioms look at a row and its dealing alone: their functions return
whether the dealing is right there. Six look at what is dealt at other rows
too: for a row and its dealing, their functions return a list of pairs of
another row and a tuple of the dealings that are right there. Two look at
the rule as a whole: their functions return whether it is right.
"""

from itertools import combinations

from dealclashes.checks import check_rule
from dealclashes.errors import BadAxiom
from dealclashes.rows import better, blocking_group, dealings, replaced, rows_of
from dealclashes.rules import bosses, count_people, deals_of


def firsts(row):
    """Return the tuple of what the people have first."""
    return tuple([ranking[0] for ranking in row])


def is_ahead(ranking, thing, other):
    """Return whether the ranking has the thing ahead of the other one."""
    return ranking.index(thing) < ranking.index(other)


def is_best(row, dealing):
    """Return whether no dealing is better for all people as a group."""
    return better(row, dealing) == ()


def is_core(row, dealing):
    """Return whether there is no blocking group."""
    return blocking_group(row, dealing) is None


def is_first(row, dealing):
    """Return whether each gets its first thing, if all first things are different."""
    things = firsts(row)
    return len(set(things)) < len(things) or dealing == things


def spares_last(row, dealing):
    """Return whether nobody gets its last thing."""
    return all([thing != ranking[-1] for ranking, thing in zip(row, dealing)])


def is_notlast(row, dealing):
    """Return whether nobody gets its last thing, if there is a dealing by which nobody does."""
    if spares_last(row, dealing):
        return True
    return not any([spares_last(row, other) for other in dealings(len(row))])


def is_own(row, dealing):
    """Return whether nobody gets a thing that it has behind its own one."""
    return not any([is_ahead(row[person], person, thing) for person, thing in enumerate(dealing)])


def is_sole(row, dealing):
    """Return whether each thing that just one person has first goes to that person."""
    things = firsts(row)
    return all([things.count(first) > 1 or first == thing for first, thing in zip(things, dealing)])


def is_swapless(row, dealing):
    """Return whether no two people would each rather have what the other one gets."""
    for one, two in combinations(range(len(row)), 2):
        if is_ahead(row[one], dealing[two], dealing[one]) and is_ahead(row[two], dealing[one], dealing[two]):
            return False
    return True


def changes(row):
    """Return the pairs of a person and a row in which this person alone has another ranking."""
    return [
        (person, replaced(row, person, ranking))
        for person, true in enumerate(row)
        for ranking in dealings(len(row))
        if ranking != true
    ]


def ahead(ranking, thing):
    """Return all that the ranking has ahead of the thing."""
    return ranking[:ranking.index(thing)]


def ask_growing(row, dealing):
    """Ask for the same dealing where nothing new is ahead of the thing that the person gets."""
    asked = []
    for person, other in changes(row):
        before = ahead(row[person], dealing[person])
        if all([thing in before for thing in ahead(other[person], dealing[person])]):
            asked.append((other, (dealing,)))
    return asked


def ask_still(row, dealing):
    """Ask for the same dealing where the person gets the same thing by another ranking."""
    choices = dealings(len(row))
    return [
        (other, tuple([choice for choice in choices if choice == dealing or choice[person] != dealing[person]]))
        for person, other in changes(row)
    ]


def ask_truthful(row, dealing):
    """Ask for a dealing by which the person gets nothing that it truly has ahead."""
    choices = dealings(len(row))
    return [
        (other, tuple([choice for choice in choices if not is_ahead(row[person], choice[person], dealing[person])]))
        for person, other in changes(row)
    ]


def ask_tops(row, dealing):
    """Ask for the same dealing in each row in which each person has the same first thing."""
    choices = dealings(len(row))
    same = [[ranking for ranking in choices if ranking[0] == first] for first in firsts(row)]
    return [(other, (dealing,)) for other in rows_of(same)]


def rename(things, naming):
    """Return the things by their new names."""
    return tuple([naming[thing] for thing in things])


def move(items, naming):
    """Return the items of the people, each at the place of its person's new name."""
    moved = list(items)
    for person, item in enumerate(items):
        moved[naming[person]] = item
    return tuple(moved)


def name_things(row, dealing, naming):
    """Return the row and the dealing in which the things are named anew."""
    return tuple([rename(ranking, naming) for ranking in row]), rename(dealing, naming)


def name_all(row, dealing, naming):
    """Return the row and the dealing in which the people and the things are named anew alike."""
    named_row, named_dealing = name_things(row, dealing, naming)
    return move(named_row, naming), move(named_dealing, naming)


def ask_things(row, dealing):
    """Ask for the dealing with the new names where the things are named anew."""
    named = [name_things(row, dealing, naming) for naming in dealings(len(row))]
    return [(other, (renamed,)) for other, renamed in named]


def ask_names(row, dealing):
    """Ask for the dealing with the new names where the people and the things are named anew alike."""
    named = [name_all(row, dealing, naming) for naming in dealings(len(row))]
    return [(other, (renamed,)) for other, renamed in named]


def has_no_boss(rule):
    """Return whether nobody gets its first thing in all rows."""
    return bosses(rule) == ()


def is_open(rule):
    """Return whether each dealing is dealt in some row."""
    return len(set(rule)) == len(dealings(count_people(rule)))


AT_ROW = {
    "best": is_best,
    "core": is_core,
    "first": is_first,
    "notlast": is_notlast,
    "own": is_own,
    "sole": is_sole,
    "swapless": is_swapless,
}
ACROSS = {
    "growing": ask_growing,
    "names": ask_names,
    "still": ask_still,
    "things": ask_things,
    "tops": ask_tops,
    "truthful": ask_truthful,
}
WHOLE = {"noboss": has_no_boss, "open": is_open}
# Of those that look at other rows: those where one person alone changes its ranking, and new names.
CHANGES = ("growing", "still", "truthful")
RENAMINGS = {"names": name_all, "things": name_things}


def axioms():
    """Return the ascending tuple of the names of the axioms."""
    return tuple(sorted(list(AT_ROW) + list(ACROSS) + list(WHOLE)))


def is_right_at(deals, row, axiom):
    """Return whether the dealings keep the axiom, which is not of the whole rule, at the row."""
    dealing = deals[row]
    if axiom in AT_ROW:
        is_right = AT_ROW[axiom]
        return is_right(row, dealing)
    ask = ACROSS[axiom]
    return all([deals[other] in allowed for other, allowed in ask(row, dealing)])


def breaking_row(rule, axiom):
    """Return the least row at which the rule breaks the axiom, () for a whole rule's, None if it keeps it."""
    check_rule(rule)
    if axiom not in axioms():
        raise BadAxiom("no axiom has this name")
    if axiom in WHOLE:
        is_right = WHOLE[axiom]
        return None if is_right(rule) else ()
    deals = deals_of(rule)
    for row in deals:
        if not is_right_at(deals, row, axiom):
            return row
    return None


def keeps(rule, axiom):
    """Return whether the rule keeps the axiom."""
    return breaking_row(rule, axiom) is None


def profile(rule):
    """Return the ascending tuple of the axioms that the rule keeps."""
    check_rule(rule)
    return tuple([axiom for axiom in axioms() if keeps(rule, axiom)])

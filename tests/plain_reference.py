"""A second reading of the document, as plain and slow as its words, to compare the program with.

It shares no code with the package. A rule is here a dict from rows to dealings.
"""

from itertools import chain, combinations, permutations, product

AXIOMS = (
    "best", "core", "first", "growing", "names", "noboss", "notlast", "open",
    "own", "sole", "still", "swapless", "things", "tops", "truthful",
)


def all_dealings(people):
    return sorted(permutations(range(people)))


def all_rows(people):
    return sorted(product(all_dealings(people), repeat=people))


def as_dict(rule):
    people = {4: 2, 216: 3}[len(rule)]
    deals = all_dealings(people)
    return {row: deals[number] for row, number in zip(all_rows(people), rule)}


def rather(ranking, thing, other):
    """The ranking has the thing ahead of the other one."""
    return [item for item in ranking if item in (thing, other)][0] == thing != other


def better_for(row, group, new, old):
    worse = [p for p in group if rather(row[p], old[p], new[p])]
    return not worse and [new[p] for p in group] != [old[p] for p in group]


def better(row, dealing):
    people = range(len(row))
    return tuple(d for d in all_dealings(len(row)) if better_for(row, people, d, dealing))


def blocking_group(row, dealing):
    people = range(len(row))
    for group in chain(*[combinations(people, size) for size in range(1, len(row) + 1)]):
        for new in all_dealings(len(row)):
            others_own = all(new[p] == p for p in people if p not in group)
            if {new[p] for p in group} == set(group) and others_own and better_for(row, group, new, dealing):
                return group
    return None


def lies(deals, row, person):
    found = []
    for ranking in all_dealings(len(row)):
        told = tuple(ranking if p == person else row[p] for p in range(len(row)))
        if rather(row[person], deals[told][person], deals[row][person]):
            found.append(ranking)
    return tuple(found)


def bosses(deals):
    people = range(len(next(iter(deals))))
    return tuple(p for p in people if all(deals[row][p] == row[p][0] for row in deals))


def one_change(row):
    """Each person with each row in which only this person's ranking is another one."""
    for other in all_rows(len(row)):
        changed = [p for p in range(len(row)) if row[p] != other[p]]
        if len(changed) == 1:
            yield changed[0], other


def above(ranking, thing):
    return {item for item in ranking if rather(ranking, item, thing)}


def named_anew(row, dealing, people_names, thing_names):
    """The row and the dealing in which person p is called people_names[p], thing t thing_names[t]."""
    new_row, new_dealing = {}, {}
    for person in range(len(row)):
        new_row[people_names[person]] = tuple(thing_names[thing] for thing in row[person])
        new_dealing[people_names[person]] = thing_names[dealing[person]]
    order = range(len(row))
    return tuple(new_row[p] for p in order), tuple(new_dealing[p] for p in order)


def stands(axiom, deals, row):
    """What stands behind the axiom's name in the document is so at the row."""
    dealing, people = deals[row], range(len(row))
    tops = [ranking[0] for ranking in row]
    if axiom == "best":
        return not better(row, dealing)
    if axiom == "core":
        return blocking_group(row, dealing) is None
    if axiom == "first":
        return len(set(tops)) != len(tops) or list(dealing) == tops
    if axiom == "growing":
        return all(
            deals[other] == dealing for p, other in one_change(row)
            if above(other[p], dealing[p]) <= above(row[p], dealing[p])
        )
    if axiom in ("names", "things"):
        for naming in all_dealings(len(row)):
            new_row, new_dealing = named_anew(row, dealing, naming if axiom == "names" else people, naming)
            if deals[new_row] != new_dealing:
                return False
        return True
    if axiom == "notlast":
        can = [d for d in all_dealings(len(row)) if all(d[p] != row[p][-1] for p in people)]
        return not can or dealing in can
    if axiom == "own":
        return not any(rather(row[p], p, dealing[p]) for p in people)
    if axiom == "sole":
        return all(dealing[p] == tops[p] for p in people if tops.count(tops[p]) == 1)
    if axiom == "still":
        return all(
            deals[other] == dealing for p, other in one_change(row) if deals[other][p] == dealing[p]
        )
    if axiom == "swapless":
        return not any(
            rather(row[p], dealing[q], dealing[p]) and rather(row[q], dealing[p], dealing[q])
            for p, q in product(people, people)
        )
    if axiom == "tops":
        return all(
            deals[other] == dealing for other in deals if [ranking[0] for ranking in other] == tops
        )
    if axiom == "truthful":
        return not any(lies(deals, row, p) for p in people)
    raise AssertionError(axiom)


def breaking_row(rule, axiom):
    deals = as_dict(rule)
    if axiom == "noboss":
        return () if bosses(deals) else None
    if axiom == "open":
        return None if set(deals.values()) == set(all_dealings(len(next(iter(deals))))) else ()
    return next((row for row in sorted(deals) if not stands(axiom, deals, row)), None)

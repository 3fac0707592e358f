"""A second reading of points 11 and 12 of the document, to compare papers with.

It shares no code with the package. What is left is a dict from rows to sets of dealings.
"""

from functools import lru_cache

import plain_reference as plain

AT_FIRST = ("best", "core", "first", "notlast", "own", "sole", "swapless")
AGAINST = ("growing", "names", "still", "things", "tops", "truthful")


def renamings(axiom, row, dealing):
    """The row and the dealing under each renaming that the axiom speaks of."""
    for naming in plain.all_dealings(len(row)):
        people_names = naming if axiom == "names" else range(len(row))
        yield plain.named_anew(row, dealing, people_names, naming)


def stays_the_same(row, dealing):
    """Each renaming of people and things alike that leaves the row the same leaves the dealing the same."""
    return all(deal == dealing for same, deal in renamings("names", row, dealing) if same == row)


@lru_cache(maxsize=None)
def at_first(people, wanted):
    left = {}
    for row in plain.all_rows(people):
        left[row] = {
            d for d in plain.all_dealings(people)
            if all(plain.stands(axiom, {row: d}, row) for axiom in wanted if axiom in AT_FIRST)
            and ("names" not in wanted or stays_the_same(row, d))
        }
    return left


def broken_by(axiom, row, dealing):
    """Each other row with a dealing by which a rule that deals both breaks the axiom at the row."""
    deals = plain.all_dealings(len(row))
    if axiom in ("names", "things"):
        asked = [(other, deal) for other, deal in renamings(axiom, row, dealing) if other != row]
        return [(other, d) for other, deal in asked for d in deals if d != deal]
    if axiom == "tops":
        tops = [ranking[0] for ranking in row]
        same = [o for o in plain.all_rows(len(row)) if o != row and [ranking[0] for ranking in o] == tops]
        return [(other, d) for other in same for d in deals if d != dealing]
    broken = []
    for person, other in plain.one_change(row):
        got = dealing[person]
        for d in deals:
            if axiom == "growing":
                wrong = d != dealing and plain.above(other[person], got) <= plain.above(row[person], got)
            elif axiom == "still":
                wrong = d != dealing and d[person] == got
            else:
                wrong = plain.rather(row[person], d[person], got)
            if wrong:
                broken.append((other, d))
    return broken


@lru_cache(maxsize=None)
def against(people, axiom):
    """All dealings that go against each other by the axiom: a dict from pairs of rows to pairs of dealings."""
    found = {}
    for row in plain.all_rows(people):
        for dealing in plain.all_dealings(people):
            for other, d in broken_by(axiom, row, dealing):
                found.setdefault((row, other), set()).add((dealing, d))
                found.setdefault((other, row), set()).add((d, dealing))
    return found


@lru_cache(maxsize=None)
def all_against(people, wanted):
    """The same for all wanted axioms, as a dict from rows to dicts from other rows to pairs."""
    found = {row: {} for row in plain.all_rows(people)}
    for axiom in wanted:
        if axiom in AGAINST:
            for (row, other), pairs in against(people, axiom).items():
                found[row].setdefault(other, set()).update(pairs)
    return found


def close(people, wanted, left):
    """Strike until nothing can be struck."""
    foes = all_against(people, wanted)
    left = dict(left)
    striking = set(left)
    while striking:
        changed = set()
        for other in striking:
            for row, pairs in foes[other].items():
                keep = {d for d in left[row] if not all((o, d) in pairs for o in left[other])}
                if keep != left[row]:
                    left[row] = keep
                    changed.add(row)
        striking = changed
    return left


def is_empty(people, wanted, left):
    if not all(left.values()):
        return True
    if "open" in wanted and set().union(*left.values()) != set(plain.all_dealings(people)):
        return True
    return "noboss" in wanted and any(
        all(d[person] == row[person][0] for row in left for d in left[row]) for person in range(people)
    )


def is_plain(value):
    """The value is made of tuples and integers alone."""
    if isinstance(value, tuple):
        return all(is_plain(item) for item in value)
    return type(value) is int


def is_paper(people, wanted, left, value):
    left = close(people, wanted, left)
    if is_empty(people, wanted, left):
        return isinstance(value, tuple) and value == ()
    if not isinstance(value, tuple) or len(value) != 2:
        return False
    row, papers = value
    if not is_plain(row) or row not in left or not isinstance(papers, tuple):
        return False
    deals = sorted(left[row])
    return len(deals) == len(papers) > 1 and all(
        is_paper(people, wanted, {**left, row: {d}}, part) for d, part in zip(deals, papers)
    )


def shows_clash(people, wanted, value):
    return is_paper(people, wanted, at_first(people, wanted), value)


def shows_never(people, wanted, row, dealing, value):
    left = at_first(people, wanted)
    return is_paper(people, wanted, {**left, row: left[row] & {dealing}}, value)

"""What wanted axioms leave for each row at first, and what goes against what (point 11).

Rows are told by their places in the order of rows, dealings by masks.
"""

from dealclashes.axioms import ACROSS, AT_ROW, CHANGES, RENAMINGS, ask_tops, changes
from dealclashes.masks import joined, spread, turned
from dealclashes.rows import dealings, rows


class Ground:
    """All that papers and searches need to know of the wanted axioms.

    first: the list of the masks of what is left at first, one for each row.
    links: for each row the list of pairs of another row and a spread fit.
    aims: lists of a mask for each row; what is left is empty, too, if there
    is an aim of which nothing is left at any row.
    """

    def __init__(self, people, wanted):
        self.people = people
        self.rows = rows(people)
        self.places = {row: place for place, row in enumerate(self.rows)}
        fits = find_fits(people, self.places, wanted)
        self.first = [find_first(row, wanted, fits[place][place]) for row, place in self.places.items()]
        self.links = find_links(fits)
        self.aims = find_aims(self.rows, wanted)


def masks_of_dealings(people):
    """Return the dict of the mask of each dealing, in their order."""
    return {dealing: 1 << number for number, dealing in enumerate(dealings(people))}


def loose_fit(people):
    """Return the fit by which nothing goes against anything."""
    masks = masks_of_dealings(people)
    return [sum(list(masks.values()))] * len(masks)


def find_fits(people, places, wanted):
    """Return, for each row, the dict of its fits by the places of the other rows, its own included."""
    fits = [{place: loose_fit(people)} for place in range(len(places))]
    add_changes(people, places, wanted, fits)
    add_renamings(people, places, wanted, fits)
    if "tops" in wanted:
        add_tops(people, places, fits)
    return fits


def add_fit(fits, place, other, fit):
    """Add one more fit of two rows to what is known of them."""
    known = fits[place]
    # Joined, as a dealing is struck where all that is left elsewhere goes against it by any axiom.
    known[other] = joined(known[other], fit) if other in known else fit


def add_changes(people, places, wanted, fits):
    """Add what the axioms on one person's change of its ranking ask for."""
    asked = [axiom for axiom in CHANGES if axiom in wanted]
    if asked == []:
        return
    by_change = fits_by_change(people, asked)
    for row, place in places.items():
        for person, other in changes(row):
            add_fit(fits, place, places[other], by_change[(person, row[person], other[person])])


def fits_by_change(people, asked):
    """Return the dict of the fits by the person, its ranking and its other ranking."""
    found = {}
    # These axioms do not look at the rankings of the others, so that one row tells it for all.
    for ranking in dealings(people):
        row = (ranking,) * people
        fits = fits_asked(row, asked)
        for person, other in changes(row):
            found[(person, ranking, other[person])] = fits[other]
    return {
        (who, true, told): joined(fit, turned(found[(who, told, true)]))
        for (who, true, told), fit in found.items()
    }


def fits_asked(row, asked):
    """Return the dict of what the axioms on changes ask for at a row, by the row of each change."""
    fits = {other: loose_fit(len(row)) for _, other in changes(row)}
    masks = masks_of_dealings(len(row))
    for axiom in asked:
        ask = ACROSS[axiom]
        for number, dealing in enumerate(masks):
            for other, allowed in ask(row, dealing):
                fits[other][number] &= sum([masks[choice] for choice in allowed])
    return fits


def add_renamings(people, places, wanted, fits):
    """Add what the axioms on new names ask for."""
    masks = masks_of_dealings(people)
    for axiom in RENAMINGS:
        if axiom in wanted:
            name_anew = RENAMINGS[axiom]
            for naming in masks:
                # A dealing is named anew in the same way at each row, and a row with each dealing.
                fit = [masks[name_anew((naming,) * people, dealing, naming)[1]] for dealing in masks]
                for row, place in places.items():
                    add_fit(fits, place, places[name_anew(row, naming, naming)[0]], fit)


def add_tops(people, places, fits):
    """Add that the dealing is the same where the first things are."""
    same = list(masks_of_dealings(people).values())
    for row, place in places.items():
        for other, _ in ask_tops(row, row[0]):
            add_fit(fits, place, places[other], same)


def find_first(row, wanted, fit):
    """Return the mask of what is left at first for a row with this fit to itself."""
    at_row = [axiom for axiom in AT_ROW if axiom in wanted]
    masks = masks_of_dealings(len(row))
    left = 0
    for number, dealing in enumerate(masks):
        if fit[number] & masks[dealing] and is_allowed(row, dealing, at_row):
            left = left | masks[dealing]
    return left


def is_allowed(row, dealing, at_row):
    """Return whether all axioms that look at a row and its dealing alone are kept there."""
    for axiom in at_row:
        is_right = AT_ROW[axiom]
        if not is_right(row, dealing):
            return False
    return True


def find_links(fits):
    """Return, for each row, the list of the other rows and the spread fits to them."""
    # Few fits differ, so that each is spread once.
    spreads = {}
    links = []
    for place, known in enumerate(fits):
        found = []
        for other, fit in known.items():
            key = tuple(fit)
            if key not in spreads:
                spreads[key] = spread(fit)
            if other != place:
                found.append((other, spreads[key]))
        links.append(found)
    return links


def find_aims(all_rows, wanted):
    """Return the lists of masks of which the wanted axioms on the whole rule ask for some dealing."""
    people = len(all_rows[0])
    masks = masks_of_dealings(people)
    aims = []
    if "open" in wanted:
        aims = aims + [[mask] * len(all_rows) for mask in masks.values()]
    if "noboss" in wanted:
        for person in range(people):
            missed = {
                thing: sum([mask for dealing, mask in masks.items() if dealing[person] != thing])
                for thing in range(people)
            }
            aims.append([missed[row[person][0]] for row in all_rows])
    return aims

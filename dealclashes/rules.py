"""Rules: what they deal, who can gain by a lie, and the four told rules (points 4 and 5)."""

from dealclashes.checks import check_alike, check_people, check_person, check_row, check_rule
from dealclashes.errors import BadName
from dealclashes.rows import blocking_group, dealings, replaced, rows


def count_people(rule):
    """Return the number of people that the rule is for."""
    check_rule(rule)
    return 2 if len(rule) == 4 else 3


def deals_of(rule):
    """Return the dict of the dealing that the rule deals at each row, in the order of rows."""
    people = count_people(rule)
    choices = dealings(people)
    return {row: choices[number] for row, number in zip(rows(people), rule)}


def dealt(rule, row):
    """Return the dealing that the rule deals at the row."""
    check_rule(rule)
    check_row(row)
    check_alike(count_people(rule), len(row))
    return deals_of(rule)[row]


def bosses(rule):
    """Return the ascending tuple of the people who get their first thing in all rows."""
    people = count_people(rule)
    deals = deals_of(rule)
    return tuple([person for person in range(people) if is_boss(deals, person)])


def is_boss(deals, person):
    """Return whether the person gets its first thing in all rows."""
    return all([dealing[person] == row[person][0] for row, dealing in deals.items()])


def lies(rule, row, person):
    """Return the ascending tuple of the rankings by which the person gets something better."""
    check_rule(rule)
    check_row(row)
    check_alike(count_people(rule), len(row))
    check_person(person, len(row))
    deals = deals_of(rule)
    true = row[person]
    place = true.index(deals[row][person])
    found = []
    for ranking in dealings(len(row)):
        thing = deals[replaced(row, person, ranking)][person]
        if true.index(thing) < place:
            found.append(ranking)
    return tuple(found)


def deal_asks(row):
    """Return what is dealt if all ask for their first thing, then the rest for their second, and so on."""
    dealing = [None] * len(row)
    for place in range(len(row)):
        for person, ranking in enumerate(row):
            if dealing[person] is None and ranking[place] not in dealing:
                dealing[person] = ranking[place]
    return tuple(dealing)


def deal_keep(row):
    """Return the dealing by which each gets its own thing."""
    return tuple(range(len(row)))


def deal_rings(row):
    """Return the only dealing that has no blocking group."""
    return [dealing for dealing in dealings(len(row)) if blocking_group(row, dealing) is None][0]


def deal_turns(row):
    """Return what is dealt if each in turn takes the thing it likes most of those left."""
    dealing = []
    for ranking in row:
        left = [thing for thing in ranking if thing not in dealing]
        dealing.append(left[0])
    return tuple(dealing)


TOLD = {"asks": deal_asks, "keep": deal_keep, "rings": deal_rings, "turns": deal_turns}


def names():
    """Return the ascending tuple of the names of the told rules."""
    return tuple(sorted(TOLD))


def told_rule(name, people):
    """Return the told rule of this name for so many people."""
    if name not in names():
        raise BadName("no told rule has this name")
    check_people(people)
    numbers = {dealing: number for number, dealing in enumerate(dealings(people))}
    deal = TOLD[name]
    return tuple([numbers[deal(row)] for row in rows(people)])

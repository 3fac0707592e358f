"""Which sets of axioms some rule keeps, and which just one (points 8 to 10 and 13).

The two tables are those of the document. They tell it for all sets, and
spare a search; the tests show by papers and rules that they are right.
"""

from itertools import product

from dealclashes.axioms import axioms, profile
from dealclashes.checks import check_people
from dealclashes.errors import BadPeople, NotOne
from dealclashes.grounds import Ground
from dealclashes.searches import closed, search
from dealclashes.wanted import check_wanted, lie_in, with_one, without_one

LEAST_CLASHES = {
    2: (
        ("core", "things"),
        ("names", "things"),
        ("own", "things"),
        ("best", "noboss", "things"),
        ("first", "noboss", "things"),
        ("growing", "noboss", "things"),
        ("noboss", "notlast", "things"),
        ("noboss", "sole", "things"),
        ("noboss", "swapless", "things"),
        ("noboss", "things", "truthful"),
    ),
    3: (
        ("best", "tops"),
        ("core", "notlast"),
        ("core", "sole"),
        ("core", "things"),
        ("core", "tops"),
        ("growing", "notlast"),
        ("growing", "sole"),
        ("names", "things"),
        ("notlast", "own"),
        ("notlast", "sole"),
        ("notlast", "tops"),
        ("notlast", "truthful"),
        ("own", "sole"),
        ("own", "things"),
        ("sole", "truthful"),
        ("swapless", "tops"),
        ("things", "tops"),
        ("first", "growing", "tops"),
        ("first", "tops", "truthful"),
        ("growing", "noboss", "things"),
        ("growing", "open", "tops"),
        ("best", "noboss", "things", "truthful"),
        ("first", "noboss", "things", "truthful"),
        ("noboss", "still", "things", "truthful"),
        ("noboss", "swapless", "things", "truthful"),
        ("open", "still", "tops", "truthful"),
    ),
}
LEAST_FORCING = {
    2: (
        ("core",),
        ("best", "own"),
        ("first", "own"),
        ("notlast", "own"),
        ("open", "own"),
        ("own", "sole"),
        ("own", "swapless"),
    ),
    3: (
        ("core",),
        ("best", "growing", "own"),
        ("best", "own", "truthful"),
        ("first", "growing", "own"),
        ("growing", "names", "tops"),
        ("growing", "open", "own"),
        ("growing", "own", "swapless"),
        ("growing", "own", "tops"),
        ("own", "swapless", "truthful"),
        ("first", "names", "own", "truthful"),
        ("first", "own", "still", "tops"),
        ("first", "own", "still", "truthful"),
        ("names", "still", "tops", "truthful"),
        ("open", "own", "still", "tops"),
        ("open", "own", "still", "truthful"),
        ("open", "own", "tops", "truthful"),
        ("own", "still", "tops", "truthful"),
    ),
}


def can_hold(people, wanted):
    """Return whether some rule keeps all wanted axioms."""
    return clashes(people, wanted) == ()


def some_rule(people, wanted):
    """Return a rule that keeps all wanted axioms, None if there is none."""
    if not can_hold(people, wanted):
        return None
    ground = Ground(people, wanted)
    return search(ground, closed(ground, ground.first))[1]


def forces(people, wanted):
    """Return whether just one rule keeps all wanted axioms."""
    return can_hold(people, wanted) and forcings(people, wanted) != ()


def only_rule(people, wanted):
    """Return the only rule that keeps all wanted axioms."""
    if not forces(people, wanted):
        raise NotOne("no rule keeps all of these axioms, or several do")
    return some_rule(people, wanted)


def can_add(people, wanted):
    """Return the ascending tuple of the further axioms that some rule keeps beside the wanted ones."""
    check_wanted(people, wanted)
    further = [axiom for axiom in axioms() if axiom not in wanted]
    return tuple([axiom for axiom in further if can_hold(people, with_one(wanted, axiom))])


def greatest_sets(people):
    """Return the ascending tuple of the sets that some rule keeps, but with no axiom more."""
    greatest = [axioms()]
    for clash in least_clashes(people):
        greatest = without_clash(greatest, clash)
    return tuple(sorted(greatest))


def without_clash(greatest, clash):
    """Return the greatest parts of the sets in which the clash does not lie."""
    clear = [wanted for wanted in greatest if not lie_in(clash, wanted)]
    cut = [without_one(wanted, axiom) for wanted in greatest if lie_in(clash, wanted) for axiom in clash]
    parts = sorted(set(clear + cut))
    return [part for part in parts if not any([part != other and lie_in(part, other) for other in parts])]


def least_clashes(people):
    """Return the tuple of the least clashes, the smaller ones first."""
    check_people(people)
    return LEAST_CLASHES[people]


def clashes(people, wanted):
    """Return the tuple of the least clashes that lie in the wanted axioms."""
    check_wanted(people, wanted)
    return tuple([clash for clash in least_clashes(people) if lie_in(clash, wanted)])


def least_forcing(people):
    """Return the tuple of the least forcing sets, the smaller ones first."""
    check_people(people)
    return LEAST_FORCING[people]


def forcings(people, wanted):
    """Return the tuple of the least forcing sets that lie in the wanted axioms."""
    check_wanted(people, wanted)
    return tuple([forcing for forcing in least_forcing(people) if lie_in(forcing, wanted)])


def rules_that_keep(people, wanted):
    """Return the ascending tuple of the rules for two people that keep all wanted axioms."""
    if people != 2:
        raise BadPeople("all rules are listed for two people only")
    check_wanted(people, wanted)
    rules = list(product(range(2), range(2), range(2), range(2)))
    return tuple([rule for rule in rules if lie_in(wanted, profile(rule))])

"""What was put in taken out again, and places of old rows led to places of new ones."""

from widenrows.rows import with_far
from widenrows.walks import comes_to, places_of
from widenrows.ways import targets_of, ways_of, with_targets
from widenrows.wishes import check_wishes


def old_target(new, leads, target):
    r = comes_to(new, leads, target)
    # Where all branches halt no row is known; any will do, so that what is told is still a program.
    return 0 if r is None else r


def taken_out(new, paper):
    leads = paper["leads"]
    places = places_of(leads)
    rows = []
    for r, form in enumerate(paper["forms"]):
        row = new[places[r]]
        targets = [old_target(new, leads, target) for target in targets_of(row)]
        rows.append(with_far(with_targets(row, targets), form))
    return rows


def places_led(old, new, paper, place):
    # Any what will do: only the place is in question.
    check_wishes(old, [(place, ("count", 0))])
    leads = paper["leads"]
    n = places_of(leads)[place[1]]
    if place[0] != "way":
        return [(place[0], n)]
    return [("way", n, m) for m in ways_of(new, n) if comes_to(new, leads, m) == place[2]]

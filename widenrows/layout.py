"""Where rows begin, how far their targets lie, and which jumps must be long."""

from widenrows.errors import NoLayout
from widenrows.rows import has_far, with_far
from widenrows.ways import targets_of

LEAST_SHORT = -64
GREATEST_SHORT = 63
# A row has at least one unit, so what a short jump bears lies over no more rows than this.
MOST_ROWS_OVER = 64

TWO_UNITS = ("set", "more", "put", "take", "see", "halt")


def size_of(row):
    word = row[0]
    if word == "table":
        return 2 + len(row[2])
    if has_far(word):
        return 1 + row[-1]
    return 2 if word in TWO_UNITS else 1


def begins_of(rows):
    begins = [0]
    for row in rows:
        begins.append(begins[-1] + size_of(row))
    return begins


def distances_of(rows, begins, r):
    return [begins[target] - begins[r + 1] for target in targets_of(rows[r])]


def is_short_jump(row):
    return has_far(row[0]) and row[-1] == 0


def is_borne(distance):
    return LEAST_SHORT <= distance <= GREATEST_SHORT


def short_distances(rows):
    begins = begins_of(rows)
    distances = {}
    for r, row in enumerate(rows):
        if is_short_jump(row):
            distances[r] = distances_of(rows, begins, r)[0]
    return distances


def check_layout(rows):
    distances = short_distances(rows)
    for r in distances:
        if not is_borne(distances[r]):
            raise NoLayout(r)


def jumps_over(rows, r, other):
    target = targets_of(rows[r])[0]
    return min(target, r + 1) <= other < max(target, r + 1)


def one_further(distance):
    return distance + 1 if distance > 0 else distance - 1


def jumps_to_lengthen(rows):
    distances = short_distances(rows)
    waiting = [r for r in distances if not is_borne(distances[r])]
    longer = {}
    for r in waiting:
        longer[r] = True
    # Each jump that becomes long moves others by one unit at most once, so no layout is reckoned anew as a whole.
    while len(waiting) > 0:
        grown = waiting.pop()
        for r in range(max(0, grown - MOST_ROWS_OVER), min(len(rows), grown + MOST_ROWS_OVER + 1)):
            if r in distances and r not in longer and jumps_over(rows, r, grown):
                distances[r] = one_further(distances[r])
                if not is_borne(distances[r]):
                    longer[r] = True
                    waiting.append(r)
    return longer


def least_layout(rows):
    longer = jumps_to_lengthen(rows)
    return [with_far(row, 1) if r in longer else row for r, row in enumerate(rows)]

"""Which boxes a row reads and writes, and which are free ahead of it."""

from widenrows.errors import NoFree
from widenrows.rows import is_number_of
from widenrows.ways import targets_of, ways_of

ALL_BOXES = (0, 1, 2, 3, 4, 5, 6, 7)

# At which places of a row the boxes stand that it reads; rows of other words read none.
READ_AT = {
    "more": (1,),
    "copy": (2,),
    "add": (1, 2),
    "less": (1, 2),
    "load": (2,),
    "keep": (1, 2),
    "tell": (1,),
    "see": (1,),
    "put": (1,),
    "zero": (1,),
    "below": (1,),
    "table": (1,),
}
WRITING = ("set", "more", "copy", "add", "less", "load", "take")
# Behind these a run is at its end, or at a home that they do not name: whatever a box holds there may count.
ENDS = ("stop", "back", "halt")


def reads_of(row):
    return sorted(set([row[place] for place in READ_AT.get(row[0], ())]))


def writes_of(row):
    return [row[1]] if row[0] in WRITING else []


def needs_at_once(row, box):
    return row[0] in ENDS or box in reads_of(row)


def ways_ahead(rows, r):
    # A call comes home by a back, ahead of which nothing is free: so the row behind it asks for nothing more.
    return targets_of(rows[r]) if rows[r][0] == "call" else ways_of(rows, r)


def is_claim(thing):
    if not isinstance(thing, tuple) or not all([is_number_of("box", box) for box in thing]):
        return False
    return list(thing) == sorted(set(thing))


def is_right(rows, claims, r, box):
    if needs_at_once(rows[r], box):
        return False
    return box in writes_of(rows[r]) or all([box in claims[s] for s in ways_ahead(rows, r)])


def check_free(rows, claims):
    if not isinstance(claims, list):
        raise NoFree(0)
    for r in range(len(rows)):
        if r >= len(claims) or not is_claim(claims[r]):
            raise NoFree(r)
    if len(claims) > len(rows):
        raise NoFree(len(rows))
    for r, claim in enumerate(claims):
        if not all([is_right(rows, claims, r, box) for box in claim]):
            raise NoFree(r)


def rows_ahead_of(rows):
    ahead = [[] for row in rows]
    for r in range(len(rows)):
        for s in ways_ahead(rows, r):
            ahead[s].append(r)
    return ahead


def rows_that_need(rows, ahead, box):
    waiting = [r for r, row in enumerate(rows) if needs_at_once(row, box)]
    needing = {}
    for r in waiting:
        needing[r] = True
    while len(waiting) > 0:
        s = waiting.pop()
        for r in ahead[s]:
            if r not in needing and box not in writes_of(rows[r]):
                needing[r] = True
                waiting.append(r)
    return needing


def free_boxes(rows):
    ahead = rows_ahead_of(rows)
    needing = [rows_that_need(rows, ahead, box) for box in ALL_BOXES]
    return [tuple([box for box in ALL_BOXES if r not in needing[box]]) for r in range(len(rows))]

"""Walks over rows that are put in, from a way to a row that stands for an old one."""

from widenrows.ways import goes_on, targets_of


def places_of(leads):
    places = {}
    for n, lead in enumerate(leads):
        if lead is not None:
            places[lead] = n
    return places


def next_rows(new, n):
    # Not ways_of: where both branches of a zero or below come to one row, it stands here twice.
    following = targets_of(new[n])
    if goes_on(new[n]):
        following.append(n + 1)
    return following


def comes_to(new, leads, start):
    # Every branch that does not halt comes to the same old row, so the first one tells it.
    waiting = [start]
    gone = {}
    while len(waiting) > 0:
        n = waiting.pop()
        if leads[n] is not None:
            return leads[n]
        if n not in gone:
            gone[n] = True
            waiting.extend(next_rows(new, n))
    return None

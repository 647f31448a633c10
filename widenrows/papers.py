"""The checker of papers: it knows nothing of how rows are put in, and looks at any paper, whoever wrote it."""

from widenrows.errors import NoFree, NoPaper, TooMuch
from widenrows.free import ALL_BOXES, check_free
from widenrows.rows import asides_named, far_of, is_whole, parts_of
from widenrows.walks import next_rows, places_of
from widenrows.ways import goes_on, targets_of

MOST_WALKED = 2000

NEEDED_KEYS = ("leads", "forms", "free")
STAYING_PARTS = ("box", "aside", "number", "value")
MAY_BE_PUT_IN = ("set", "more", "copy", "add", "less", "put", "take", "see", "jump", "zero", "below", "halt")
# What these give a box is surely none of the old numbers, as far as the checker looks.
SPOILING = ("set", "more", "add", "less")


class Branch:
    # held tells for each box, and held_aside for asides, which box's old number is there: None for something else.

    def __init__(self, place, held, held_aside, gone):
        self.place = place
        self.held = held
        self.held_aside = held_aside
        self.gone = gone

    def forked(self, place):
        return Branch(place, list(self.held), dict(self.held_aside), dict(self.gone))

    def pass_row(self, row):
        self.gone[self.place] = True
        if row[0] == "copy":
            self.held[row[1]] = self.held[row[2]]
        elif row[0] == "take":
            self.held[row[1]] = self.held_aside.get(row[2])
        elif row[0] == "put":
            self.held_aside[row[2]] = self.held[row[1]]
        elif row[0] in SPOILING:
            self.held[row[1]] = None


class Walk:
    def __init__(self):
        self.walked = 0
        self.looped = False
        self.ends = {}

    def walk_row(self):
        self.walked = self.walked + 1
        if self.walked > MOST_WALKED:
            raise TooMuch()

    def follow(self, new, leads, branch):
        forks = []
        while leads[branch.place] is None and branch.place not in branch.gone:
            self.walk_row()
            branch.pass_row(new[branch.place])
            following = next_rows(new, branch.place)
            if len(following) == 0:
                return forks
            forks.extend([branch.forked(place) for place in following[1:]])
            branch.place = following[0]
        if leads[branch.place] is None:
            self.looped = True
        else:
            self.ends[(leads[branch.place], tuple(branch.held))] = True
        return forks


def walk_from(new, leads, start):
    walk = Walk()
    waiting = [Branch(start, list(ALL_BOXES), {}, {})]
    while len(waiting) > 0:
        branch = waiting.pop()
        waiting.extend(walk.follow(new, leads, branch))
    return walk


def are_leads(leads, how_many_old, how_many_new):
    if not isinstance(leads, list) or len(leads) != how_many_new:
        return False
    numbers = [lead for lead in leads if lead is not None]
    return all([is_whole(number) for number in numbers]) and sorted(numbers) == list(range(how_many_old))


def can_stand_for(row, old_row):
    if row[0] != old_row[0] or len(targets_of(row)) != len(targets_of(old_row)):
        return False
    return parts_of(row, STAYING_PARTS) == parts_of(old_row, STAYING_PARTS)


def are_forms(forms, old):
    if not isinstance(forms, list) or not all([is_whole(form) for form in forms]):
        return False
    return forms == [far_of(row) for row in old]


def are_free(old, claims):
    try:
        check_free(old, claims)
    except NoFree:
        return False
    return True


def may_be_put_in(row, named):
    return row[0] in MAY_BE_PUT_IN and not (row[0] == "put" and row[2] in named)


def stands_well(old, new, paper):
    leads = paper["leads"]
    if not are_leads(leads, len(old), len(new)) or not are_forms(paper["forms"], old):
        return False
    named = asides_named(old)
    for row, lead in zip(new, leads):
        if lead is None and not may_be_put_in(row, named):
            return False
        if lead is not None and not can_stand_for(row, old[lead]):
            return False
    return are_free(old, paper["free"])


def ways_to_walk(old, new, leads):
    # Each with the old row to which it is to come.
    places = places_of(leads)
    ways = [(0, 0)]
    for r, row in enumerate(old):
        n = places[r]
        if goes_on(row):
            ways.append((n + 1, r + 1))
        ways.extend(list(zip(targets_of(new[n]), targets_of(row))))
    return ways


def leads_well(walk, right, claims):
    if walk.looped:
        return False
    for r, held in walk.ends:
        if r != right or not all([held[box] == box or box in claims[r] for box in ALL_BOXES]):
            return False
    return True


def check_paper(old, new, paper):
    if not isinstance(paper, dict) or not all([key in paper for key in NEEDED_KEYS]):
        raise NoPaper()
    if not stands_well(old, new, paper):
        raise NoPaper()
    ways = ways_to_walk(old, new, paper["leads"])
    walks = {}
    # All are walked ahead of any look at them: a walk that is too long is told first.
    for start, right in ways:
        if start not in walks:
            walks[start] = walk_from(new, paper["leads"], start)
    for start, right in ways:
        if not leads_well(walks[start], right, paper["free"]):
            raise NoPaper()

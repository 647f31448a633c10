"""What a row is, and which lists of rows are programs."""

from widenrows.errors import NoRows
from widenrows.ways import goes_on, targets_of

MOST_ROWS = 4000
MOST_TARGETS = 16

# The least and the greatest number of each kind of part.
BOUNDS = {
    "box": (0, 7),
    "aside": (0, 1000000),
    "target": (0, 1000000000),
    "number": (0, 1000000),
    "value": (-1000000000, 1000000000),
    "far": (0, 1),
}

# The kinds of the parts that stand behind each word.
PARTS = {
    "stop": (),
    "back": (),
    "halt": ("number",),
    "set": ("box", "value"),
    "more": ("box", "value"),
    "copy": ("box", "box"),
    "add": ("box", "box"),
    "less": ("box", "box"),
    "load": ("box", "box"),
    "keep": ("box", "box"),
    "tell": ("box",),
    "see": ("box", "number"),
    "put": ("box", "aside"),
    "take": ("box", "aside"),
    "jump": ("target", "far"),
    "zero": ("box", "target", "far"),
    "below": ("box", "target", "far"),
    "call": ("target", "far"),
    "mark": ("target", "far"),
    "table": ("box", "targets"),
}


def is_whole(thing):
    return isinstance(thing, int) and not isinstance(thing, bool)


def is_number_of(kind, thing):
    return is_whole(thing) and BOUNDS[kind][0] <= thing <= BOUNDS[kind][1]


def is_targets(thing):
    if not isinstance(thing, tuple) or not 1 <= len(thing) <= MOST_TARGETS:
        return False
    return all([is_number_of("target", target) for target in thing])


def is_part(kind, thing):
    if kind == "targets":
        return is_targets(thing)
    return is_number_of(kind, thing)


def are_parts(kinds, things):
    return len(things) == len(kinds) and all([is_part(kind, thing) for kind, thing in zip(kinds, things)])


def word_of(thing):
    # None where it is no text: other things may not be fit to be looked up at all.
    if isinstance(thing, tuple) and len(thing) > 0 and isinstance(thing[0], str):
        return thing[0]
    return None


def is_row(row):
    word = word_of(row)
    return word in PARTS and are_parts(PARTS[word], row[1:])


def has_far(word):
    return "far" in PARTS[word]


def far_of(row):
    return row[-1] if has_far(row[0]) else 0


def with_far(row, far):
    return row[:-1] + (far,) if has_far(row[0]) else row


def parts_of(row, kinds):
    return [part for kind, part in zip(PARTS[row[0]], row[1:]) if kind in kinds]


def asides_named(rows):
    named = {}
    for row in rows:
        for aside in parts_of(row, ("aside",)):
            named[aside] = True
    return named


def stays_within(row, how_many):
    return all([target < how_many for target in targets_of(row)])


def check_rows(rows):
    if not isinstance(rows, list) or len(rows) == 0:
        raise NoRows(0)
    for at, row in enumerate(rows[:MOST_ROWS]):
        if not is_row(row) or not stays_within(row, len(rows)):
            raise NoRows(at)
    if len(rows) > MOST_ROWS:
        raise NoRows(MOST_ROWS)
    if goes_on(rows[-1]):
        raise NoRows(len(rows) - 1)

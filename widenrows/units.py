"""Rows as units, whole numbers one behind the other, and units read back."""

from widenrows.errors import NoUnits
from widenrows.layout import begins_of, check_layout, distances_of, is_short_jump, size_of
from widenrows.rows import MOST_TARGETS, PARTS, far_of, has_far, is_number_of, is_whole, parts_of
from widenrows.ways import goes_on, targets_of, with_targets

# The word and far for each code: the code is the place.
HEADS = (
    ("stop", 0), ("back", 0), ("halt", 0), ("set", 0), ("more", 0),
    ("copy", 0), ("add", 0), ("less", 0), ("load", 0), ("keep", 0),
    ("tell", 0), ("see", 0), ("put", 0), ("take", 0), ("jump", 0),
    ("zero", 0), ("below", 0), ("call", 0), ("mark", 0), ("table", 0),
    ("jump", 1), ("zero", 1), ("below", 1), ("call", 1), ("mark", 1),
)
CODE_STEP = 1024
BOX_STEP = 128
BOXES = 8
# Short distances go below 0, and the low part of a unit does not.
SHORT_ADDED = 64

NUMBER_KINDS = ("number", "value", "aside")


def head_of(row):
    return (row[0], far_of(row))


def low_of(row, distances):
    if is_short_jump(row):
        return distances[0] + SHORT_ADDED
    boxes = parts_of(row, ("box",))
    return boxes[1] if len(boxes) == 2 else 0


def first_unit(row, distances):
    boxes = parts_of(row, ("box",))
    a = boxes[0] if len(boxes) > 0 else 0
    return HEADS.index(head_of(row)) * CODE_STEP + a * BOX_STEP + low_of(row, distances)


def other_units(row, distances):
    if row[0] == "table":
        return [len(distances)] + distances
    if has_far(row[0]):
        return distances if row[-1] == 1 else []
    return parts_of(row, NUMBER_KINDS)


def units_of(rows):
    check_layout(rows)
    begins = begins_of(rows)
    units = []
    for r, row in enumerate(rows):
        distances = distances_of(rows, begins, r)
        units.append(first_unit(row, distances))
        units.extend(other_units(row, distances))
    return units


def whole_at(units, at):
    # Units are read in their order, so the first one that lacks has their count for its number.
    if at >= len(units) or not is_whole(units[at]):
        raise NoUnits(at)
    return units[at]


def fits_head(head, a, low):
    boxes = PARTS[head[0]].count("box")
    if boxes == 0 and a != 0:
        return False
    if boxes == 2:
        return low < BOXES
    return low == 0 or (has_far(head[0]) and head[1] == 0)


def table_at(units, at, a):
    how_many = whole_at(units, at + 1)
    if not 1 <= how_many <= MOST_TARGETS:
        raise NoUnits(at + 1)
    return ("table", a, tuple([whole_at(units, at + 2 + k) for k in range(how_many)]))


def number_at(units, at, kind):
    number = whole_at(units, at)
    if not is_number_of(kind, number):
        raise NoUnits(at)
    return number


def part_at(units, at, kind, a):
    if kind == "box":
        return a
    return number_at(units, at + 1, kind)


def jump_at(units, at, head, a, low):
    distance = low - SHORT_ADDED if head[1] == 0 else whole_at(units, at + 1)
    boxes = (a,) if "box" in PARTS[head[0]] else ()
    return (head[0],) + boxes + (distance, head[1])


# Where targets begin is not known till all rows are read, so distances stand in their places up to then.
def row_at(units, at):
    unit = whole_at(units, at)
    if not 0 <= unit < len(HEADS) * CODE_STEP:
        raise NoUnits(at)
    head = HEADS[unit // CODE_STEP]
    a = unit % CODE_STEP // BOX_STEP
    low = unit % BOX_STEP
    if not fits_head(head, a, low):
        raise NoUnits(at)
    if head[0] == "table":
        return table_at(units, at, a)
    if has_far(head[0]):
        return jump_at(units, at, head, a, low)
    kinds = PARTS[head[0]]
    if kinds == ("box", "box"):
        return (head[0], a, low)
    return (head[0],) + tuple([part_at(units, at, kind, a) for kind in kinds])


def rows_with_distances(units):
    rows = []
    at = 0
    while at < len(units):
        rows.append(row_at(units, at))
        at = at + size_of(rows[-1])
    return rows


def rows_of_units(units):
    if not isinstance(units, list) or len(units) == 0:
        raise NoUnits(0)
    rows = rows_with_distances(units)
    begins = begins_of(rows)
    numbers = {}
    for r in range(len(rows)):
        numbers[begins[r]] = r
    read = []
    for r, row in enumerate(rows):
        targets = [numbers.get(begins[r + 1] + distance) for distance in targets_of(row)]
        if None in targets or (r == len(rows) - 1 and goes_on(row)):
            raise NoUnits(begins[r])
        read.append(with_targets(row, targets))
    return read

"""The desk: a program, wishes and a beginning, of which lines ask and tell."""

from widenrows.errors import NoLine, NoWish
from widenrows.free import ALL_BOXES, free_boxes
from widenrows.layout import least_layout
from widenrows.papertexts import shown_boxes
from widenrows.plain import plain_seen
from widenrows.rows import check_rows, is_number_of
from widenrows.texts import read_number, read_rows, shown_rows
from widenrows.units import units_of
from widenrows.wide import wide_seen
from widenrows.wishes import PLACES, WHATS, check_wishes

MOST_FIGURES = 40
MOST_STOOD_AT = 500

DONE = "ok"
NOTHING = "-"


def read_any(word):
    number = read_number(word, MOST_FIGURES)
    if number is None:
        raise NoLine()
    return number


def read_not_below(word):
    number = read_any(word)
    if number < 0:
        raise NoLine()
    return number


def read_value(word):
    number = read_any(word)
    if not is_number_of("value", number):
        raise NoLine()
    return number


def expect(words, how_many):
    if len(words) != how_many:
        raise NoLine()


def joined(words):
    return " ".join(words) if len(words) > 0 else NOTHING


def say_rows(desk, words):
    expect(words, 0)
    return shown_rows(desk.program)


def say_layout(desk, words):
    expect(words, 0)
    return shown_rows(least_layout(desk.program))


def say_units(desk, words):
    expect(words, 0)
    return " ".join([str(unit) for unit in units_of(least_layout(desk.program))])


def say_free(desk, words):
    expect(words, 0)
    return " ".join([shown_boxes(boxes) for boxes in free_boxes(desk.program)])


def tuple_of(words):
    return tuple(words[:1] + [read_not_below(word) for word in words[1:]])


def read_wish(words):
    if len(words) == 0 or words[0] not in PLACES:
        raise NoLine()
    place = words[:PLACES[words[0]]]
    what = words[PLACES[words[0]]:]
    if len(what) == 0 or what[0] not in WHATS:
        raise NoLine()
    expect(what[1:], len(WHATS[what[0]]))
    return (tuple_of(place), tuple_of(what))


def shown_wish(wish):
    return " ".join([str(part) for part in wish[0] + wish[1]])


def say_wish(desk, words):
    wishes = desk.kept_wishes + [read_wish(words)]
    check_wishes(desk.program, wishes)
    desk.kept_wishes = wishes
    return DONE


def say_drop(desk, words):
    expect(words, 1)
    k = read_not_below(words[0])
    if k >= len(desk.kept_wishes):
        raise NoWish(k)
    desk.kept_wishes.pop(k)
    return DONE


def say_wishes(desk, words):
    expect(words, 0)
    if len(desk.kept_wishes) == 0:
        return "none"
    return "; ".join([shown_wish(wish) for wish in desk.kept_wishes])


def say_box(desk, words):
    expect(words, 2)
    box = read_not_below(words[0])
    if box not in ALL_BOXES:
        raise NoLine()
    desk.first_boxes[box] = read_value(words[1])
    return DONE


def say_cell(desk, words):
    expect(words, 2)
    cell = read_any(words[0])
    desk.first_cells[cell] = read_value(words[1])
    return DONE


def say_bells(desk, words):
    desk.first_bells = [read_any(word) for word in words]
    return DONE


def read_most(words):
    expect(words, 1)
    most = read_not_below(words[0])
    if most > MOST_STOOD_AT:
        raise NoLine()
    return most


def shown_pairs(pairs):
    return joined([f"{number}={seen}" for number, seen in pairs])


def shown_reading(reading):
    ending = reading["ending"]
    return " | ".join([
        shown_pairs(reading["seen"]),
        shown_pairs(sorted(reading["counts"].items())),
        joined([str(r) for r in reading["rows"]]),
        joined([] if ending is None else [str(word) for word in ending]),
    ])


def say_plain(desk, words):
    most = read_most(words)
    return shown_reading(plain_seen(
        desk.program, desk.kept_wishes, desk.first_boxes, desk.first_cells, desk.first_bells, most))


def say_wide(desk, words):
    most = read_most(words)
    return shown_reading(wide_seen(
        desk.program, desk.kept_wishes, desk.first_boxes, desk.first_cells, desk.first_bells, most))


DEEDS = {
    "rows": say_rows,
    "layout": say_layout,
    "units": say_units,
    "free": say_free,
    "wish": say_wish,
    "drop": say_drop,
    "wishes": say_wishes,
    "box": say_box,
    "cell": say_cell,
    "bells": say_bells,
    "plain": say_plain,
    "wide": say_wide,
}


class Desk:
    def __init__(self, text):
        self.program = read_rows(text)
        check_rows(self.program)
        self.kept_wishes = []
        self.first_boxes = [0 for box in ALL_BOXES]
        self.first_cells = {}
        self.first_bells = []

    def say(self, line):
        if not isinstance(line, str):
            raise NoLine()
        words = line.split(" ")
        if words[0] not in DEEDS:
            raise NoLine()
        return DEEDS[words[0]](self, words[1:])

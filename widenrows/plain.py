"""The plain reading: what wishes see of a run of the old rows, where nothing is put in."""

from widenrows.machine import Machine
from widenrows.rows import check_rows
from widenrows.wishes import check_wishes, numbers_of_whats, whats_before, whats_on_way


def nothing_counted(wishes):
    counts = {}
    for number in numbers_of_whats(wishes, "count"):
        counts[number] = 0
    return counts


def see_what(reading, what, boxes):
    word = what[0]
    number = what[1]
    if word == "look":
        reading["seen"].append((number, boxes[what[2]]))
    elif word == "count":
        reading["counts"][number] = reading["counts"][number] + 1
    elif boxes[what[2]] < 0:
        reading["ending"] = ("halt", number)


def see_whats(reading, whats, boxes):
    for what in whats:
        # A guard that ended the run hides all that stands behind it.
        if reading["ending"] is None:
            see_what(reading, what, boxes)


def whats_between(rows, wishes, r, s):
    # A back comes home on the way of the call or mark that stands just ahead of the home.
    leaving = s - 1 if rows[r][0] == "back" else r
    return whats_on_way(wishes, leaving, s) + whats_before(wishes, s)


def do_row(reading, rows, wishes, machine):
    r = machine.row()
    if rows[r][0] == "see":
        reading["seen"].append((rows[r][2], machine.boxes()[rows[r][1]]))
    machine.step()
    reading["ending"] = machine.ending()
    s = machine.row()
    return [] if s is None else whats_between(rows, wishes, r, s)


def plain_seen(rows, wishes, boxes, cells, bells, most):
    check_rows(rows)
    check_wishes(rows, wishes)
    machine = Machine(rows, boxes, cells, bells)
    reading = {"seen": [], "counts": nothing_counted(wishes), "rows": [], "ending": None}
    whats = whats_before(wishes, 0)
    while len(reading["rows"]) < most and reading["ending"] is None:
        see_whats(reading, whats, machine.boxes())
        if reading["ending"] is None:
            reading["rows"].append(machine.row())
            if len(reading["rows"]) < most:
                whats = do_row(reading, rows, wishes, machine)
    return reading

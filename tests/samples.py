"""Rows and programs that several tests look at, written out by hand from the document."""

from widenrows.ways import ways_of

STOP = ("stop",)
JUMPING = ("jump", "zero", "below", "call", "mark")

# Each word, short and far: the row, its line, how many units it has. Targets are row 3.
FORMS = (
    (("stop",), "stop", 1),
    (("back",), "back", 1),
    (("halt", 5), "halt 5", 2),
    (("set", 1, -7), "set 1 -7", 2),
    (("more", 2, 8), "more 2 8", 2),
    (("copy", 3, 4), "copy 3 4", 1),
    (("add", 4, 5), "add 4 5", 1),
    (("less", 5, 6), "less 5 6", 1),
    (("load", 6, 7), "load 6 7", 1),
    (("keep", 7, 1), "keep 7 1", 1),
    (("tell", 2), "tell 2", 1),
    (("see", 3, 12), "see 3 12", 2),
    (("put", 4, 13), "put 4 13", 2),
    (("take", 5, 14), "take 5 14", 2),
    (("jump", 3, 0), "jump 3", 1),
    (("zero", 6, 3, 0), "zero 6 3", 1),
    (("below", 7, 3, 0), "below 7 3", 1),
    (("call", 3, 0), "call 3", 1),
    (("mark", 3, 0), "mark 3", 1),
    (("jump", 3, 1), "jump far 3", 2),
    (("zero", 6, 3, 1), "zero far 6 3", 2),
    (("below", 7, 3, 1), "below far 7 3", 2),
    (("call", 3, 1), "call far 3", 2),
    (("mark", 3, 1), "mark far 3", 2),
    (("table", 1, (3,)), "table 1 3", 3),
    (("table", 2, (3, 0, 2)), "table 2 3 0 2", 5),
    (("table", 3, (3, 2, 1, 0) * 4), "table 3 3 2 1 0 3 2 1 0 3 2 1 0 3 2 1 0", 18),
)

# What is no whole number, and may stand where one should.
NO_NUMBERS = (True, False, None, "1", "", 1.0, (1,), [1], {}, {1: 1})


def jumps_to(target, far):
    return [("jump", target, far), ("zero", 0, target, far), ("below", 7, target, far), ("call", target, far),
            ("mark", target, far)]


def random_row(draw, how_many, long_tables=False):
    """A row of a program of so many rows, drawn with a random.Random."""
    word = draw.choice(("stop back halt set more copy add less load keep tell see put take jump zero below call mark "
                        "table jump zero below call mark").split())
    box = draw.randrange(8)
    target = draw.randrange(how_many)
    far = draw.choice((0, 0, 0, 1))
    if word in ("stop", "back"):
        return (word,)
    if word == "halt":
        return (word, draw.randrange(10**6 + 1))
    if word in ("set", "more"):
        return (word, box, draw.choice((-10**9, -2, -1, 0, 1, 2, 10**9)))
    if word in ("copy", "add", "less", "load", "keep"):
        return (word, box, draw.randrange(8))
    if word == "tell":
        return (word, box)
    if word in ("see", "put", "take"):
        return (word, box, draw.choice((0, 1, 2, 10**6)))
    if word in ("jump", "call", "mark"):
        return (word, target, far)
    if word in ("zero", "below"):
        return (word, box, target, far)
    count = 16 if long_tables else draw.randrange(1, 17)
    return (word, box, tuple(draw.randrange(how_many) for k in range(count)))


def random_program(draw, how_many, long_tables=False):
    rows = [random_row(draw, how_many, long_tables) for r in range(how_many - 1)]
    return rows + [draw.choice((STOP, ("back",), ("halt", 7), ("jump", 0, 1)))]


def lively_program(draw, how_many):
    """A program that seldom ends at once: most of its stops and halts are other rows."""
    rows = random_program(draw, how_many)
    for r, row in enumerate(rows[:-1]):
        if row[0] in ("stop", "halt") and draw.random() < 0.8:
            rows[r] = draw.choice((("more", 0, -1), ("set", 1, 2), ("copy", 2, 1), ("see", 3, 4), ("tell", 4)))
    return rows


def random_beginning(draw):
    boxes = [draw.choice((0, 0, 1, 2, 3, -1)) for b in range(8)]
    cells = {draw.randrange(-2, 4): draw.randrange(-1, 3) for c in range(3)}
    return boxes, cells, [draw.randrange(6) for b in range(draw.randrange(5))]


def all_places(rows):
    places = []
    for r in range(len(rows)):
        ways = ways_of(rows, r)
        places += [("before", r)] + [("after", r)] * bool(ways) + [("way", r, s) for s in ways]
    return places


def random_wishes(draw, rows, how_many):
    """So many wishes, some at the same place; few numbers N, so that several wishes have the same."""
    places = all_places(rows)
    few = draw.sample(places, min(len(places), 4))
    wishes = []
    for k in range(how_many):
        what = draw.choice((("look", draw.randrange(4), draw.randrange(8)), ("count", draw.randrange(3)),
                            ("guard", draw.randrange(3), draw.randrange(8)), ("count", draw.randrange(3))))
        wishes.append((draw.choice(draw.choice((few, places))), what))
    return wishes


def state_of(machine):
    return {
        "row": machine.row(), "ending": machine.ending(), "boxes": machine.boxes(), "cells": machine.cells(),
        "asides": machine.asides(), "told": machine.told(), "seen": machine.seen(), "deep": machine.deep(),
        "passed": machine.passed(),
    }


def plain_run(rows, boxes, cells, bells, most, changes=()):
    """Another machine, which keeps everything in plain values: the states at which it stood.

    Of each of the changes (k, box, number) it has the number in the box where it comes to the state k.
    """
    box, cell, aside = dict(enumerate(boxes)), dict(cells), {}
    told, seen, pile, marks, at, ending = [], [], [], 0, 0, None
    states = []
    while True:
        box.update({b: number for k, b, number in changes if k == len(states)})
        states.append({
            "row": at, "ending": ending, "boxes": [box[b] for b in range(8)],
            "cells": {c: n for c, n in cell.items() if n}, "asides": {a: n for a, n in aside.items() if n},
            "told": list(told), "seen": list(seen), "deep": len(pile), "passed": marks,
        })
        if at is None or len(states) > most:
            return states
        word, *parts = rows[at]
        behind = at + 1
        target = behind
        match word, parts:
            case "stop", []:
                ending = ("stop",)
            case "halt", [n]:
                ending = ("halt", n)
            case "back", []:
                ending = None if pile else ("home",)
                target = pile.pop() if pile else None
            case "set", [b, v]:
                box[b] = v
            case "more", [b, v]:
                box[b] += v
            case "copy", [b, c]:
                box[b] = box[c]
            case "add", [b, c]:
                box[b] += box[c]
            case "less", [b, c]:
                box[b] -= box[c]
            case "load", [b, c]:
                box[b] = cell.get(box[c], 0)
            case "keep", [b, c]:
                cell[box[b]] = box[c]
            case "tell", [b]:
                told.append(box[b])
            case "see", [b, n]:
                seen.append((n, box[b]))
            case "put", [b, a]:
                aside[a] = box[b]
            case "take", [b, a]:
                box[b] = aside.get(a, 0)
            case "jump", [t, far]:
                target = t
            case "zero", [b, t, far]:
                target = t if box[b] == 0 else behind
            case "below", [b, t, far]:
                target = t if box[b] < 0 else behind
            case "call", [t, far]:
                pile.append(behind)
                target = t
            case "mark", [t, far]:
                if marks in bells:
                    pile.append(behind)
                    target = t
                marks += 1
            case "table", [b, targets]:
                target = dict(enumerate(targets)).get(box[b], behind)
        at = target if ending is None else None


def asides_named(rows):
    return {row[2] for row in rows if row[0] in ("put", "take")}


def paper_of(old, leads, free=None):
    return {"leads": list(leads), "forms": [row[-1] if row[0] in JUMPING else 0 for row in old],
            "free": [()] * len(old) if free is None else list(free), "counts": []}


def what_is_seen(what, boxes, told):
    word, number = what[:2]
    if word == "look":
        told["seen"].append((number, boxes[what[2]]))
    elif word == "count":
        told["counts"][number] += 1
    else:
        return boxes[what[2]] < 0
    return False


def plain_reading(rows, wishes, boxes, cells, bells, most):
    """Another plain reading: it looks at the states of the whole run, and keeps the rows of the calls on the way."""
    told = {"seen": [], "counts": {what[1]: 0 for place, what in wishes if what[0] == "count"}, "rows": [],
            "ending": None}
    states = plain_run(rows, boxes, cells, bells, max(0, most - 1)) if most > 0 else []
    calls = []
    for k, state in enumerate(states):
        at, ways = state["row"], []
        if k > 0:
            before = states[k - 1]
            left = before["row"]
            told["seen"] += state["seen"][len(before["seen"]):]
            if state["deep"] > before["deep"]:
                calls.append(left)
            elif state["deep"] < before["deep"]:
                left = calls.pop()
            ways = [("after", left), ("way", left, at)]
        if at is None:
            told["ending"] = state["ending"]
            return told
        whats = [what for place, what in wishes if place in ways]
        for what in whats + [what for place, what in wishes if place == ("before", at)]:
            if what_is_seen(what, state["boxes"], told):
                told["ending"] = ("halt", what[1])
                return told
        told["rows"].append(at)
    return told


def lists_within(thing):
    """Every list and dict within what is told, itself too."""
    if isinstance(thing, dict):
        return [thing] + [other for part in thing.values() for other in lists_within(part)]
    if isinstance(thing, (list, tuple)):
        return [thing] * isinstance(thing, list) + [other for part in thing for other in lists_within(part)]
    return []


def spoil(thing):
    """Changes every list and dict within it."""
    for held in lists_within(thing):
        if isinstance(held, list):
            held.append(("stop",))
            held[0] = None
        else:
            held.clear()
            held["spoilt"] = 1

"""Rows and programs that several tests look at, written out by hand from the document."""

STOP = ("stop",)

# Each word, short and far: the row, its line, how many units it has. Targets are row 3.
FORMS = (
    (("stop",), "stop", 1),
    (("back",), "back", 1),
    (("halt", 5), "halt 5", 2),
    (("set", 1, -7), "set 1 -7", 2),
    (("more", 2, 8), "more 2 8", 2),
    (("copy", 3, 4), "copy 3 4", 1),
    (("add", 4, 5), "add 4 5", 1),
    (("less", 5, 6), "less 5 6", 1),
    (("load", 6, 7), "load 6 7", 1),
    (("keep", 7, 1), "keep 7 1", 1),
    (("tell", 2), "tell 2", 1),
    (("see", 3, 12), "see 3 12", 2),
    (("put", 4, 13), "put 4 13", 2),
    (("take", 5, 14), "take 5 14", 2),
    (("jump", 3, 0), "jump 3", 1),
    (("zero", 6, 3, 0), "zero 6 3", 1),
    (("below", 7, 3, 0), "below 7 3", 1),
    (("call", 3, 0), "call 3", 1),
    (("mark", 3, 0), "mark 3", 1),
    (("jump", 3, 1), "jump far 3", 2),
    (("zero", 6, 3, 1), "zero far 6 3", 2),
    (("below", 7, 3, 1), "below far 7 3", 2),
    (("call", 3, 1), "call far 3", 2),
    (("mark", 3, 1), "mark far 3", 2),
    (("table", 1, (3,)), "table 1 3", 3),
    (("table", 2, (3, 0, 2)), "table 2 3 0 2", 5),
    (("table", 3, (3, 2, 1, 0) * 4), "table 3 3 2 1 0 3 2 1 0 3 2 1 0 3 2 1 0", 18),
)

# What is no whole number, and may stand where one should.
NO_NUMBERS = (True, False, None, "1", "", 1.0, (1,), [1], {}, {1: 1})


def jumps_to(target, far):
    return [("jump", target, far), ("zero", 0, target, far), ("below", 7, target, far), ("call", target, far),
            ("mark", target, far)]


def random_row(draw, how_many, long_tables=False):
    """A row of a program of so many rows, drawn with a random.Random."""
    word = draw.choice(("stop back halt set more copy add less load keep tell see put take jump zero below call mark "
                        "table jump zero below call mark").split())
    box = draw.randrange(8)
    target = draw.randrange(how_many)
    far = draw.choice((0, 0, 0, 1))
    if word in ("stop", "back"):
        return (word,)
    if word == "halt":
        return (word, draw.randrange(10**6 + 1))
    if word in ("set", "more"):
        return (word, box, draw.choice((-10**9, -2, -1, 0, 1, 2, 10**9)))
    if word in ("copy", "add", "less", "load", "keep"):
        return (word, box, draw.randrange(8))
    if word == "tell":
        return (word, box)
    if word in ("see", "put", "take"):
        return (word, box, draw.choice((0, 1, 2, 10**6)))
    if word in ("jump", "call", "mark"):
        return (word, target, far)
    if word in ("zero", "below"):
        return (word, box, target, far)
    count = 16 if long_tables else draw.randrange(1, 17)
    return (word, box, tuple(draw.randrange(how_many) for k in range(count)))


def random_program(draw, how_many, long_tables=False):
    rows = [random_row(draw, how_many, long_tables) for r in range(how_many - 1)]
    return rows + [draw.choice((STOP, ("back",), ("halt", 7), ("jump", 0, 1)))]

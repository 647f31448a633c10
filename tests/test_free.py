import copy
import itertools
import random
import unittest

from samples import FORMS, NO_NUMBERS, STOP, lively_program, plain_run, random_beginning, random_program, spoil
from widenrows.errors import NoFree, RowError
from widenrows.free import check_free, free_boxes, reads_of, writes_of
from widenrows.rows import check_rows

ALL = (0, 1, 2, 3, 4, 5, 6, 7)
ENDS = (STOP, ("back",), ("halt", 3))

# Each word: the row, what it reads, what it writes.
ROWS = (
    (("stop",), [], []),
    (("back",), [], []),
    (("halt", 5), [], []),
    (("set", 1, 7), [], [1]),
    (("more", 2, 8), [2], [2]),
    (("copy", 3, 4), [4], [3]),
    (("copy", 4, 3), [3], [4]),
    (("copy", 5, 5), [5], [5]),
    (("add", 4, 5), [4, 5], [4]),
    (("add", 5, 4), [4, 5], [5]),
    (("add", 4, 4), [4], [4]),
    (("less", 5, 6), [5, 6], [5]),
    (("less", 6, 5), [5, 6], [6]),
    (("less", 0, 0), [0], [0]),
    (("load", 6, 7), [7], [6]),
    (("load", 7, 6), [6], [7]),
    (("load", 2, 2), [2], [2]),
    (("keep", 7, 1), [1, 7], []),
    (("keep", 1, 7), [1, 7], []),
    (("keep", 3, 3), [3], []),
    (("tell", 2), [2], []),
    (("see", 3, 1), [3], []),
    (("put", 4, 2), [4], []),
    (("take", 5, 3), [], [5]),
    (("jump", 3, 0), [], []),
    (("zero", 6, 3, 0), [6], []),
    (("below", 7, 3, 0), [7], []),
    (("call", 3, 0), [], []),
    (("mark", 3, 0), [], []),
    (("jump", 10**9, 1), [], []),
    (("zero", 6, 10**9, 1), [6], []),
    (("below", 7, 10**9, 1), [7], []),
    (("call", 10**9, 1), [], []),
    (("mark", 10**9, 1), [], []),
    (("table", 1, (10**9,)), [1], []),
    (("table", 0, (3, 4, 5) * 5), [0], []),
)


def is_right(rows, claims, r, box):
    """One claim, by the words of the document."""
    word, *parts = rows[r]
    if word in ("stop", "back", "halt"):
        return False
    reads = {"set": [], "take": [], "jump": [], "call": [], "mark": [], "copy": parts[1:], "load": parts[1:],
             "add": parts, "less": parts, "keep": parts}.get(word, parts[:1])
    if box in reads:
        return False
    if word in ("set", "take", "copy", "load") and parts[0] == box:
        return True
    ways = {"jump": parts[:1], "call": parts[:1], "mark": parts[:1] + [r + 1], "zero": parts[1:2] + [r + 1],
            "below": parts[1:2] + [r + 1]}.get(word, [r + 1])
    if word == "table":
        ways = list(parts[1]) + [r + 1]
    return all(box in claims[s] for s in ways)


def are_right(rows, claims):
    return all(is_right(rows, claims, r, box) for r in range(len(rows)) for box in claims[r])


def most_claims(rows):
    """Every right claims of each box by itself, tried one by one; all of them together."""
    most = [set() for row in rows]
    for box in ALL:
        for chosen in itertools.product((False, True), repeat=len(rows)):
            claims = [(box,) if one else () for one in chosen]
            if are_right(rows, claims):
                for r, one in enumerate(chosen):
                    if one:
                        most[r].add(box)
    return [tuple(sorted(boxes)) for boxes in most]


def some_claims(draw, rows):
    """Right claims, of which some boxes are left out that could be claimed."""
    claims = [tuple(box for box in boxes if draw.random() < 0.9) for boxes in free_boxes(rows)]
    while not are_right(rows, claims):
        claims = [tuple(box for box in claims[r] if is_right(rows, claims, r, box)) for r in range(len(rows))]
    return claims


class Case(unittest.TestCase):
    def let_by(self, rows, claims):
        check_rows(rows)
        self.assertIsNone(check_free(rows, claims))

    def refused(self, rows, claims, at):
        check_rows(rows)
        kept = copy.deepcopy((rows, claims))
        with self.subTest(rows=rows, claims=claims):
            with self.assertRaises(NoFree) as caught:
                check_free(rows, claims)
            self.assertIs(type(caught.exception), NoFree)
            self.assertIsInstance(caught.exception, RowError)
            self.assertEqual(caught.exception.at, at)
            self.assertIs(type(caught.exception.at), int)
            self.assertEqual((rows, claims), kept)


class ReadsAndWrites(Case):
    def test_each_word(self):
        for row, reads, writes in ROWS:
            with self.subTest(row=row):
                self.assertEqual((reads_of(row), writes_of(row)), (reads, writes))
                self.assertIs(type(reads_of(row)), list)
                self.assertIs(type(writes_of(row)), list)
        self.assertEqual({row[0] for row, line, units in FORMS}, {row[0] for row, reads, writes in ROWS})

    def test_each_box(self):
        for box in ALL:
            self.assertEqual(reads_of(("tell", box)), [box])
            self.assertEqual(writes_of(("set", box, 0)), [box])
            for other in ALL:
                self.assertEqual(reads_of(("keep", box, other)), sorted({box, other}))

    def test_each_time_a_new_one(self):
        for row, reads, writes in ROWS:
            reads_of(row).append(9)
            writes_of(row).append(9)
            self.assertEqual((reads_of(row), writes_of(row)), (reads, writes))


class Claims(Case):
    def test_none_at_all(self):
        for row, line, units in FORMS:
            self.let_by([row, STOP, STOP, STOP], [()] * 4)

    def test_ahead_of_ends_none_is_free(self):
        for end in ENDS:
            self.let_by([("set", 0, 1), end], [(0,), ()])
            for box in ALL:
                self.refused([end], [(box,)], 0)
                self.refused([("set", box, 1), end], [(box,), (box,)], 1)
            self.refused([("set", 0, 1), end], [(1,), ()], 0)

    def test_what_a_row_writes_is_free_ahead_of_it(self):
        for row, reads, writes in ROWS:
            if row[0] in ("set", "take", "copy", "load") and reads != writes:
                self.let_by([row, STOP], [tuple(writes), ()])

    def test_what_a_row_reads_is_not(self):
        # Behind the row every box is written, so all but what it reads are free ahead of it.
        writing = [("set", box, 0) for box in ALL]
        for row, reads, writes in ROWS:
            if row in ENDS or row == ("halt", 5):
                continue
            row = {"jump": ("jump", 1, 0), "zero": ("zero", row[1], 1, 0), "below": ("below", row[1], 1, 0),
                   "call": ("call", 1, 0), "mark": ("mark", 1, 0), "table": ("table", row[1], (1,))}.get(row[0], row)
            rows = [row] + writing + [STOP]
            claims = [tuple(box for box in ALL if box not in reads)] + [ALL[k:] for k in range(8)] + [()]
            self.let_by(rows, claims)
            for box in reads:
                self.refused(rows, [tuple(sorted(claims[0] + (box,)))] + claims[1:], 0)

    def test_a_box_that_is_read_and_written_is_not_free(self):
        for row in (("more", 0, 1), ("copy", 0, 0), ("add", 0, 1), ("add", 0, 0), ("less", 0, 1), ("load", 0, 0)):
            self.refused([row, ("set", 0, 1), STOP], [(0,), (0,), ()], 0)

    def test_both_ways_of_a_branch(self):
        for row in (("zero", 1, 3, 0), ("below", 1, 3, 0), ("mark", 3, 0), ("table", 1, (3,)), ("zero", 1, 3, 1),
                    ("mark", 3, 1)):
            self.let_by([row, ("set", 0, 1), STOP, ("set", 0, 1), STOP], [(0,), (0,), (), (0,), ()])
            self.refused([row, ("set", 0, 1), STOP, ("set", 0, 1), STOP], [(0,), (), (), (0,), ()], 0)
            self.refused([row, ("set", 0, 1), STOP, ("set", 0, 1), STOP], [(0,), (0,), (), (), ()], 0)

    def test_the_one_way_of_a_jump(self):
        for far in (0, 1):
            self.let_by([("jump", 2, far), STOP, ("set", 0, 1), STOP], [(0,), (), (0,), ()])
            self.refused([("jump", 2, far), ("set", 0, 1), ("tell", 0), STOP], [(0,), (0,), (), ()], 0)

    def test_each_target_of_a_table(self):
        rows = [("table", 1, (3, 5, 3)), ("set", 0, 1), STOP, ("set", 0, 2), STOP, ("set", 0, 3), STOP]
        self.let_by(rows, [(0,), (0,), (), (0,), (), (0,), ()])
        for r in (1, 3, 5):
            claims = [(0,), (0,), (), (0,), (), (0,), ()]
            claims[r] = ()
            self.refused(rows, claims, 0)

    def test_a_call_at_its_target_alone(self):
        for far in (0, 1):
            rows = [("call", 3, far), ("tell", 0), STOP, ("set", 0, 1), ("back",)]
            self.let_by(rows, [(0,), (), (), (0,), ()])
            rows = [("call", 3, far), ("set", 0, 1), STOP, ("tell", 0), ("back",)]
            self.refused(rows, [(0,), (0,), (), (), ()], 0)
            self.let_by(rows, [(), (0,), (), (), ()])

    def test_nothing_is_free_ahead_of_back(self):
        rows = [("call", 2, 0), ("set", 0, 1), ("back",)]
        self.refused(rows, [(0,), (0,), (0,)], 2)
        self.refused(rows, [(0,), (), ()], 0)
        self.refused(rows, [(1,), (), ()], 0)

    def test_loops_bear_themselves(self):
        self.let_by([("jump", 0, 0)], [ALL])
        self.let_by([("tell", 3), ("jump", 0, 0)], [(0, 1, 2, 4, 5, 6, 7)] * 2)
        self.refused([("tell", 3), ("jump", 0, 0)], [(), ALL], 1)
        self.let_by([("call", 0, 0), STOP], [ALL, ()])
        self.refused([("mark", 0, 0), STOP], [ALL, ()], 0)

    def test_the_first_row_that_is_claimed_wrongly(self):
        rows = [("set", 0, 1), ("tell", 0), ("tell", 1), ("tell", 2), STOP]
        self.let_by(rows, [(0,), (), (), (), ()])
        self.refused(rows, [(0,), (), (1,), (2,), (0,)], 2)
        self.refused(rows, [(0,), (), (), (2,), (0,)], 3)
        self.refused(rows, [(0,), (0, 1), (1,), (2,), (0,)], 1)
        self.refused(rows, [(0, 1), (), (), (), ()], 0)

    def test_drawn_claims(self):
        draw = random.Random(31)
        right = 0
        for k in range(4000):
            rows = random_program(draw, draw.randrange(2, 5))
            most = free_boxes(rows)
            claims = [tuple(box for box in boxes if draw.random() < 0.9) for boxes in most]
            if draw.random() < 0.3:
                claims[draw.randrange(len(rows))] = (draw.randrange(8),)
            wrong = [r for r in range(len(rows)) if not all(is_right(rows, claims, r, box) for box in claims[r])]
            right += not wrong
            if wrong:
                self.refused(rows, claims, wrong[0])
            else:
                self.let_by(rows, claims)
        self.assertTrue(400 < right < 3600)


class NoClaims(Case):
    ROWS = [("set", 0, 1), ("set", 1, 1), ("set", 2, 1), STOP]
    RIGHT = [(0, 1, 2), (1, 2), (2,), ()]

    def test_right_ones(self):
        self.let_by(self.ROWS, self.RIGHT)

    def test_what_is_no_list(self):
        for thing in NO_NUMBERS + (tuple(self.RIGHT), 5, "()", set()):
            if type(thing) is not list:
                self.refused(self.ROWS, thing, 0)

    def test_too_short(self):
        for count in range(4):
            self.refused(self.ROWS, self.RIGHT[:count], count)

    def test_too_long(self):
        self.refused(self.ROWS, self.RIGHT + [()], 4)
        self.refused(self.ROWS, self.RIGHT + [(), ()], 4)
        self.refused(self.ROWS, self.RIGHT + [(0,)], 4)
        self.refused(self.ROWS, self.RIGHT + [None], 4)
        self.refused([STOP], [(), ()], 1)

    def test_no_such_tuple(self):
        spoilt = (
            [], [2], "2", "", None, 2, {2: 2}, {2}, (2, 2), (1, 1, 2), (2, 1), (0, 2, 1), (True,), (False,), (2, True),
            (-1,), (8,), (2, 8), (-1, 2), (2.0,), ("2",), ((2,),), ([2],), (None,), (10**30,),
        )
        for r in range(4):
            for thing in spoilt:
                self.refused(self.ROWS, self.RIGHT[:r] + [thing] + self.RIGHT[r + 1:], r)

    def test_the_form_is_looked_at_first(self):
        # Row 0 is claimed wrongly, too.
        for r in range(1, 4):
            self.refused(self.ROWS, [(7,)] + self.RIGHT[1:r] + [(8,)] + self.RIGHT[r + 1:], r)
        self.refused(self.ROWS, [(7,)] + self.RIGHT[1:3], 3)
        self.refused(self.ROWS, [(7,)] + self.RIGHT[1:] + [()], 4)
        self.refused(self.ROWS, [(7,)] + self.RIGHT[1:], 0)
        self.refused(self.ROWS, self.RIGHT[:2] + [(9,), (9,), ()], 2)


class MostBoxes(Case):
    def told(self, rows, expected):
        check_rows(rows)
        told = free_boxes(rows)
        with self.subTest(rows=rows):
            self.assertEqual(told, expected)
            self.assertIs(type(told), list)
            self.assertTrue(all(type(boxes) is tuple for boxes in told))
            self.assertIsNone(check_free(rows, told))

    def test_ends(self):
        for end in ENDS:
            self.told([end], [()])
        self.told([STOP, ("back",), ("halt", 0)], [(), (), ()])

    def test_writes_one_behind_the_other(self):
        self.told([("set", 0, 1), ("set", 1, 1), ("take", 2, 1), STOP], [(0, 1, 2), (1, 2), (2,), ()])
        self.told([("set", box, 1) for box in ALL] + [STOP], [ALL[k:] for k in range(8)] + [()])

    def test_reads_in_between(self):
        self.told([("set", 1, 1), ("tell", 0), ("set", 0, 1), STOP], [(1,), (), (0,), ()])
        self.told([("copy", 0, 1), ("set", 1, 1), STOP], [(0,), (1,), ()])

    def test_loops_without_an_end(self):
        self.told([("jump", 0, 0)], [ALL])
        self.told([("tell", 3), ("jump", 0, 0)], [(0, 1, 2, 4, 5, 6, 7)] * 2)
        self.told([("call", 0, 0), STOP], [ALL, ()])
        self.told([("mark", 0, 0), STOP], [(), ()])
        self.told([("more", 3, 1), ("jump", 0, 0)], [(0, 1, 2, 4, 5, 6, 7)] * 2)

    def test_loops_with_an_end(self):
        rows = [("zero", 0, 4, 0), ("set", 1, 5), ("more", 0, -1), ("jump", 0, 0), ("set", 2, 1), STOP]
        self.told(rows, [(2,), (1, 2), (2,), (2,), (2,), ()])

    def test_calls(self):
        rows = [("set", 1, 0), ("call", 4, 0), ("tell", 1), STOP, ("set", 0, 1), ("set", 2, 2), ("back",)]
        self.told(rows, [(0, 1, 2), (0, 2), (), (), (0, 2), (2,), ()])
        # The row behind the call writes the box that the called rows need.
        rows = [("call", 3, 0), ("set", 0, 1), STOP, ("tell", 0), ("back",)]
        self.told(rows, [(), (0,), (), (), ()])

    def test_marks(self):
        rows = [("mark", 3, 0), ("set", 0, 1), STOP, ("set", 0, 2), ("set", 1, 2), ("back",)]
        self.told(rows, [(0,), (0,), (), (0, 1), (1,), ()])

    def test_small_programs_against_every_right_claims(self):
        draw = random.Random(32)
        some = 0
        for k in range(150):
            rows = random_program(draw, draw.randrange(1, 6))
            expected = most_claims(rows)
            some += any(expected)
            self.told(rows, expected)
        for k in range(100):
            rows = [draw.choice((("set", 0, 1), ("call", draw.randrange(5), 0), ("mark", draw.randrange(5), 0),
                                 ("zero", 1, draw.randrange(5), 0), ("jump", draw.randrange(5), 0), ("tell", 1),
                                 ("copy", 2, 1), ("back",))) for r in range(4)] + [("jump", draw.randrange(5), 0)]
            expected = most_claims(rows)
            some += any(expected)
            self.told(rows, expected)
        self.assertGreater(some, 100)

    def test_no_box_more_can_be_claimed(self):
        draw = random.Random(33)
        for k in range(60):
            rows = lively_program(draw, draw.randrange(5, 40))
            told = free_boxes(rows)
            self.assertIsNone(check_free(rows, told))
            for r in range(len(rows)):
                for box in ALL:
                    if box not in told[r]:
                        self.refused(rows, told[:r] + [tuple(sorted(told[r] + (box,)))] + told[r + 1:], r)

    def test_many_rows_that_lead_backward(self):
        # What the last row needs becomes known row by row, against the order of the rows.
        rows = [STOP] + [("jump", r, 1) for r in range(3999)]
        self.told(rows, [()] * 4000)
        rows = [("set", 3, 0), STOP] + [("jump", 0, 1)] + [("jump", r, 1) for r in range(2, 3999)]
        self.told(rows, [(3,), ()] + [(3,)] * 3998)
        rows = [("table", 0, (0,) * 16)] * 3999 + [STOP]
        self.told(rows, [()] * 4000)

    def test_what_is_handed_in_stays_and_each_time_a_new_one(self):
        rows = [("set", 0, 1), ("table", 1, (0, 2)), ("set", 1, 4), STOP]
        kept = copy.deepcopy(rows)
        told = free_boxes(rows)
        expected = list(told)
        self.assertEqual(rows, kept)
        spoil(told)
        self.assertEqual(free_boxes(rows), expected)
        rows.clear()
        self.assertEqual(free_boxes(kept), expected)


class Free(Case):
    """Another number in a free box changes nothing but boxes that are free."""

    def held(self, rows, claims, boxes, cells, bells, at, box, number):
        states = plain_run(rows, boxes, cells, bells, 60)
        if at >= len(states) or states[at]["row"] is None or box not in claims[states[at]["row"]]:
            return False
        others = plain_run(rows, boxes, cells, bells, 60, [(at, box, number)])
        self.assertEqual(len(others), len(states))
        for one, two in zip(states, others):
            free = claims[one["row"]] if one["row"] is not None else ()
            for b in ALL:
                if b in free:
                    one["boxes"][b] = two["boxes"][b] = None
            self.assertEqual(one, two)
        return True

    def test_drawn(self):
        draw = random.Random(34)
        held = 0
        for k in range(3000):
            rows = lively_program(draw, draw.randrange(3, 14))
            claims = draw.choice((free_boxes(rows), some_claims(draw, rows)))
            check_free(rows, claims)
            boxes, cells, bells = random_beginning(draw)
            at, box = draw.choice((0, draw.randrange(12))), draw.randrange(8)
            held += self.held(rows, claims, boxes, cells, bells, at, box, draw.choice((-5, 1, 7)))
        self.assertGreater(held, 200)

    def test_small_programs_each_free_box(self):
        draw = random.Random(35)
        held = 0
        for k in range(150):
            rows = lively_program(draw, 6)
            claims = free_boxes(rows)
            boxes, cells, bells = random_beginning(draw)
            for at in range(8):
                for box in ALL:
                    held += self.held(rows, claims, boxes, cells, bells, at, box, -3)
        self.assertGreater(held, 300)


if __name__ == "__main__":
    unittest.main()

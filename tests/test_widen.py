import copy
import random
import unittest

from samples import (FORMS, JUMPING, STOP, all_places, asides_named, lists_within, lively_program, plain_reading,
                     plain_run, random_beginning, random_program, random_wishes, spoil)
from widenrows.errors import NoRows, NoWish
from widenrows.free import check_free, free_boxes
from widenrows.layout import check_layout, least_layout
from widenrows.machine import Machine
from widenrows.out import taken_out
from widenrows.papers import check_paper
from widenrows.rows import check_rows
from widenrows.ways import ways_of
from widenrows.widen import widened

NOUGHTS = [0] * 8
MAY_BE_PUT_IN = ("set", "more", "copy", "add", "less", "put", "take", "see", "jump", "zero", "below", "halt")
WHATS = (("look", 4, 0), ("look", 10**6, 7), ("count", 4), ("count", 10**6), ("guard", 4, 0), ("guard", 0, 7))


def parts_that_stay(row):
    """The word and all parts but targets and far; of a table how many targets."""
    if row[0] == "table":
        return row[:2] + (len(row[2]),)
    if row[0] in ("jump", "call", "mark"):
        return row[:1]
    return row[:2] if row[0] in ("zero", "below") else row


def with_far(row, far):
    return row[:-1] + (far,) if row[0] in JUMPING else row


class Case(unittest.TestCase):
    def formed(self, rows, wishes):
        """What widened tells, held against all that can be seen without a run."""
        new, paper = widened(rows, wishes)
        self.assertIsNone(check_rows(new))
        self.assertIsNone(check_layout(new))
        self.assertEqual(list(paper), ["leads", "forms", "free", "counts"])
        leads = paper["leads"]
        self.assertEqual(len(leads), len(new))
        self.assertEqual(sorted(lead for lead in leads if lead is not None), list(range(len(rows))))
        for row, lead in zip(new, leads):
            if lead is None:
                self.assertIn(row[0], MAY_BE_PUT_IN)
                self.assertFalse(row[0] == "put" and row[2] in asides_named(rows), row)
            else:
                self.assertEqual(parts_that_stay(row), parts_that_stay(rows[lead]))
        self.assertEqual(paper["forms"], [row[-1] if row[0] in JUMPING else 0 for row in rows])
        self.assertIsNone(check_free(rows, paper["free"]))
        counts = paper["counts"]
        self.assertEqual([n for n, aside in counts], sorted({what[1] for place, what in wishes if what[0] == "count"}))
        self.assertEqual(len({aside for n, aside in counts}), len(counts))
        first = [with_far(row, 0 if lead is None else paper["forms"][lead]) for row, lead in zip(new, leads)]
        self.assertEqual(new, least_layout(first))
        self.assertIsNone(check_paper(rows, new, paper))
        self.assertEqual(taken_out(new, paper), rows)
        return new, paper

    def held(self, rows, wishes, boxes=NOUGHTS, cells=(), bells=(), most=60, widen=None):
        """A run of the widened rows held against the old run and the plain reading; what the reading is."""
        new, paper = widen or self.formed(rows, wishes)
        boxes, cells, bells = list(boxes), dict(cells), list(bells)
        reading = plain_reading(rows, wishes, boxes, cells, bells, most)
        states = plain_run(rows, boxes, cells, bells, most)
        machine = Machine(new, boxes, cells, bells)
        stood = []
        while machine.row() is not None:
            lead = paper["leads"][machine.row()]
            if lead is not None:
                self.same(rows, machine, states[len(stood)], lead, paper["free"][lead])
                stood.append(lead)
                if len(stood) == most:
                    break
            machine.step()
        told = {"seen": machine.seen(), "rows": stood, "ending": machine.ending(),
                "counts": {n: machine.asides().get(aside, 0) for n, aside in paper["counts"]}}
        self.assertEqual(told, reading)
        if machine.ending() is not None and states[len(stood)]["ending"] == machine.ending():
            self.same(rows, machine, states[len(stood)], None, ())
        return reading

    def same(self, rows, machine, state, row, free):
        self.assertEqual(state["row"], row)
        named = asides_named(rows)
        asides = {aside: number for aside, number in machine.asides().items() if aside in named}
        for box, number in enumerate(machine.boxes()):
            if box not in free:
                self.assertEqual(number, state["boxes"][box], box)
        self.assertEqual((machine.cells(), asides, machine.told(), machine.deep(), machine.passed()),
                         (state["cells"], state["asides"], state["told"], state["deep"], state["passed"]))


class NoWishes(Case):
    def test_the_rows_themselves_at_their_least(self):
        draw = random.Random(51)
        for k in range(40):
            rows = random_program(draw, draw.randrange(1, 120))
            new, paper = self.formed(rows, [])
            self.assertEqual(new, least_layout(rows))
            self.assertEqual(paper["leads"], list(range(len(rows))))
            self.assertEqual(paper["counts"], [])

    def test_one_row(self):
        for row in (STOP, ("back",), ("halt", 3), ("jump", 0, 0), ("jump", 0, 1)):
            new, paper = self.formed([row], [])
            self.assertEqual(new, [row])
            self.held([row], [], most=5)


class EachPlaceAndWhat(Case):
    # Every word, near and far, in programs that come to the row in question.
    def test_every_form_of_a_row(self):
        for row, line, units in FORMS:
            rows = [row, ("more", 0, -1), ("see", 7, 4), ("tell", 0), ("more", 7, -2), ("zero", 1, 0, 0), ("back",)]
            for place in [("before", 0), ("before", 1), ("before", 3)] + [place for place in all_places(rows)
                                                                         if place[1] == 0]:
                for what in WHATS:
                    for boxes in (NOUGHTS, [1, 2, 3, 4, 5, 6, 0, -1], [-1] * 8):
                        for bells in ((), (0,)):
                            with self.subTest(row=row, place=place, what=what, boxes=boxes, bells=bells):
                                self.held(rows, [(place, what)], boxes, {}, bells, 25)

    def test_each_what_at_each_box(self):
        rows = [("more", 0, 1), ("copy", 3, 0), STOP]
        for box in range(8):
            for number in (-2, -1, 0, 1):
                boxes = [9] * 8
                boxes[box] = number
                for place in all_places(rows):
                    self.held(rows, [(place, ("look", 1, box))], boxes)
                    self.held(rows, [(place, ("guard", 1, box))], boxes)
                    self.held(rows, [(place, ("count", 1)), (place, ("look", 2, box)), (place, ("count", 3))], boxes)

    def test_at_the_beginning(self):
        for rows in ([STOP], [("zero", 1, 0, 0), STOP], [("more", 0, -1), ("below", 0, 3, 0), ("jump", 0, 0), STOP]):
            for what in WHATS:
                for boxes in (NOUGHTS, [3] * 8, [-1] * 8):
                    self.held(rows, [(("before", 0), what)], boxes, most=20)
                    self.held(rows, [(("before", 0), what), (("before", 0), ("count", 9))], boxes, most=20)

    def test_the_way_back_to_the_beginning(self):
        rows = [("more", 0, -1), ("zero", 0, 3, 0), ("jump", 0, 0), STOP]
        for what in WHATS:
            for place in (("way", 2, 0), ("after", 2)):
                reading = self.held(rows, [(place, what), (("before", 0), ("count", 8))], [4] + [0] * 7)
                self.assertEqual(reading["counts"][8], 4)

    def test_several_at_one_place_in_their_order(self):
        rows = [("tell", 0), ("zero", 0, 0, 0), STOP]
        wishes = [(("before", 1), ("look", 1, 0)), (("way", 0, 1), ("look", 2, 0)), (("before", 1), ("count", 1)),
                  (("after", 0), ("look", 4, 0)), (("before", 1), ("look", 5, 0)), (("way", 0, 1), ("look", 6, 0)),
                  (("before", 0), ("look", 7, 0)), (("after", 1), ("look", 8, 0)), (("way", 1, 0), ("look", 9, 0)),
                  (("after", 1), ("guard", 3, 1))]
        reading = self.held(rows, wishes, most=4)
        self.assertEqual([n for n, number in reading["seen"]], [7, 2, 4, 6, 1, 5, 8, 9, 7, 2, 4, 6, 1, 5])
        for k in range(5):
            wishes = wishes[3:] + wishes[:3]
            self.held(rows, wishes, most=8)
            self.held(rows, wishes[::-1], [0, -1] + [0] * 6, most=8)

    def test_twelve_wishes_at_one_place(self):
        rows = [("table", 0, (0, 1, 2, 1)), ("more", 0, 1), ("below", 1, 0, 0), ("back",)]
        for place in all_places(rows):
            wishes = [(place, WHATS[k % 6]) for k in range(12)]
            for boxes in (NOUGHTS, [1] * 8, [-1] * 8, [0, -1, 0, 0, 0, 0, 0, 0]):
                self.held(rows, wishes, boxes, most=30)


class Tables(Case):
    def test_one_target_often(self):
        rows = [("table", 0, (3, 2, 3, 3, 1, 3)), ("tell", 1), ("tell", 2), ("more", 0, 1), ("below", 7, 0, 0), STOP]
        for place in (("way", 0, 3), ("way", 0, 2), ("way", 0, 1), ("after", 0), ("before", 3)):
            for number in range(-1, 8):
                self.held(rows, [(place, ("look", 1, 0)), (place, ("count", 2))], [number] * 7 + [-1], most=30)

    def test_into_the_midst(self):
        rows = [("table", 0, tuple(range(1, 9)))] + [("more", 1, k) for k in range(1, 8)] + [("more", 0, 1),
                                                                                             ("less", 2, 3),
                                                                                             ("below", 2, 0, 0), STOP]
        for r in range(1, 9):
            for place in (("before", r), ("way", 0, r), ("after", r)):
                for number in (-3, 0, r - 1, r, 8):
                    self.held(rows, [(place, ("count", 5)), (place, ("look", 5, 1))],
                              [number, 0, -5, 2, 0, 0, 0, 0], most=60)

    def test_ways_that_share_a_target_with_going_on(self):
        rows = [("table", 0, (1, 1, 0)), ("zero", 1, 2, 0), ("call", 3, 0), ("mark", 4, 0), ("more", 0, 2), ("back",)]
        for place in all_places(rows):
            for number in range(-1, 4):
                for bells in ((), (0,), (1, 2), (0, 1, 2, 3)):
                    self.held(rows, [(place, ("count", 1)), (place, ("look", 3, 0))], [number] * 8, {}, bells, 40)


class CallsAndMarks(Case):
    def test_calls_as_they_call_and_as_they_come_home(self):
        rows = [("call", 3, 0), ("call", 3, 1), STOP, ("more", 0, 1), ("call", 6, 0), ("back",), ("tell", 0), ("back",)]
        for place in all_places(rows):
            for what in WHATS:
                for number in (0, -1, -2, -3):
                    self.held(rows, [(place, what), (place, ("count", 8))], [number] * 8)
        self.assertEqual(self.held(rows, [(("after", 4), ("count", 1))])["counts"], {1: 4})
        self.assertEqual(self.held(rows, [(("after", 0), ("look", 1, 0))])["seen"], [(1, 0), (1, 1)])

    def test_deep_calls(self):
        rows = [("zero", 0, 3, 0), ("more", 0, -1), ("call", 0, 0), ("more", 1, 1), ("back",)]
        for place in all_places(rows):
            self.held(rows, [(place, ("count", 1)), (place, ("look", 2, 1))], [40] + [0] * 7, most=300)

    def test_marks_rung_and_not_rung(self):
        rows = [("mark", 4, 0), ("mark", 4, 1), ("more", 1, -1), ("below", 1, 6, 0), ("more", 0, 1), ("back",),
                ("mark", 0, 0), STOP]
        for place in all_places(rows):
            for bells in ((), (0,), (1,), (0, 1, 2), (2, 3, 4), (5, 2)):
                for what in (("look", 1, 0), ("count", 1), ("guard", 1, 1)):
                    self.held(rows, [(place, what), (place, ("count", 4))], NOUGHTS, {}, bells)


class Numbers(Case):
    def test_old_see_rows_of_the_same_number(self):
        rows = [("see", 0, 4), ("more", 0, 1), ("see", 0, 4), ("below", 0, 0, 0), STOP]
        for place in all_places(rows):
            self.held(rows, [(place, ("look", 4, 0)), (place, ("count", 4)), (place, ("guard", 4, 1))], [-3] + [0] * 7)

    def test_counts_of_the_same_number_at_several_places(self):
        rows = [("more", 0, 1), ("below", 0, 0, 0), ("call", 4, 0), STOP, ("back",)]
        places = all_places(rows)
        reading = self.held(rows, [(place, ("count", 6)) for place in places[:12]], [-3] + [0] * 7)
        self.assertGreater(reading["counts"][6], 15)
        self.held(rows, [(place, ("count", k % 2)) for k, place in enumerate(places[:12])], [-3] + [0] * 7)

    def test_counts_that_never_count(self):
        new, paper = self.formed([STOP, STOP], [(("before", 1), ("count", 3))])
        self.assertEqual(self.held([STOP, STOP], [(("before", 1), ("count", 3))])["counts"], {3: 0})
        self.assertEqual([n for n, aside in paper["counts"]], [3])

    def test_counts_come_by_rising_numbers(self):
        wishes = [(("before", 0), ("count", n)) for n in (9, 0, 10**6, 5, 9, 7)]
        new, paper = self.formed([STOP], wishes)
        self.assertEqual([n for n, aside in paper["counts"]], [0, 5, 7, 9, 10**6])
        self.assertEqual(self.held([STOP], wishes)["counts"], {0: 1, 5: 1, 7: 1, 9: 2, 10**6: 1})

    def test_great_numbers_stay(self):
        rows = [("add", 0, 0), ("more", 1, 1), ("below", 1, 0, 0), STOP]
        for place in all_places(rows):
            self.held(rows, [(place, ("count", 1)), (place, ("look", 2, 0))], [10**40, -30] + [0] * 6, most=100)


class Asides(Case):
    def test_asides_that_old_rows_name(self):
        for first in (range(8), (0, 2, 4, 6), (10**6, 1), (1, 10**6 - 1, 10**6)):
            rows = [("take", 1, aside) for aside in first] + [("more", 0, 1)]
            rows += [("put", 0, aside) for aside in first] + [("below", 0, 0, 0), STOP]
            wishes = [(("before", r), ("count", r)) for r in range(len(rows)) if r < 8]
            new, paper = self.formed(rows, wishes)
            self.assertEqual({aside for n, aside in paper["counts"]} & set(first), set())
            self.held(rows, wishes, [-3] * 8)

    def test_asides_that_are_only_taken(self):
        rows = [("take", 0, aside) for aside in range(20)] + [("tell", 0), STOP]
        self.held(rows, [(("before", r), ("count", r)) for r in range(12)], [5] * 8)

    def test_many_asides(self):
        rows = [("put", 0, aside) for aside in range(190)] + [("take", 1, aside) for aside in range(9)] + [STOP]
        wishes = [(("before", 5), ("count", n)) for n in range(12)]
        reading = self.held(rows, wishes, [7] * 8, most=300)
        self.assertEqual(reading["ending"], ("stop",))


class Boxes(Case):
    # Every box is in use all the time: none is free anywhere.
    ROWS = [("tell", box) for box in range(8)] + [("more", 0, 1), ("add", 1, 0), ("less", 2, 1), ("below", 0, 0, 0), STOP]

    def test_programs_that_use_all_eight(self):
        self.assertEqual(free_boxes(self.ROWS), [()] * 13)
        for place in all_places(self.ROWS):
            for what in WHATS:
                self.held(self.ROWS, [(place, what), (place, ("count", 8))], [-2, 1, 2, 3, 4, 5, 6, 7])

    def test_looks_at_free_boxes(self):
        # Each box is free ahead of the row that sets it; the looks see what it held, whatever was counted ahead.
        rows = [("more", 1, 1), ("set", 0, 3), ("set", 2, 3), ("below", 1, 0, 0), ("set", 5, 1), STOP]
        free = free_boxes(rows)
        self.assertEqual(free[1], (0, 2, 5))
        for r in range(6):
            for box in range(8):
                for place in (("before", 0), ("before", r), ("way", 3, 0), ("after", 1)):
                    wishes = [(place, ("count", 1)), (("before", r), ("look", 1, box)), (place, ("count", 2)),
                              (("before", r), ("guard", 3, box)), (("before", r), ("look", 4, box))]
                    self.held(rows, wishes, [-7, -2, 8, 9, 10, -11, 12, 13])

    def test_endless_loops_in_which_all_are_free(self):
        rows = [("jump", 1, 0), ("jump", 0, 1)]
        self.assertEqual(free_boxes(rows), [tuple(range(8))] * 2)
        for place in all_places(rows):
            wishes = [(place, ("count", 1))] + [(place, ("look", box, box)) for box in range(8)]
            self.held(rows, wishes, [5, -6, 7, -8, 9, 0, 1, 2], most=20)


class Guards(Case):
    def test_ends_and_does_not(self):
        rows = [("more", 0, -1), ("tell", 0), ("zero", 1, 0, 0), STOP]
        for place in all_places(rows):
            for start in (-1, 0, 1, 2):
                for ahead in ((), [(place, ("look", 1, 0))]):
                    wishes = list(ahead) + [(place, ("guard", 7, 0)), (place, ("look", 2, 0)), (place, ("count", 3))]
                    self.held(rows, wishes, [start] + [0] * 7, most=12)

    def test_guards_that_end_a_run_within_calls(self):
        rows = [("call", 2, 0), STOP, ("more", 0, -1), ("call", 2, 0), ("back",)]
        reading = self.held(rows, [(("after", 3), ("guard", 7, 0))], [4] + [0] * 7)
        self.assertEqual(reading["ending"], ("halt", 7))
        self.held(rows, [(("before", 2), ("guard", 7, 0))], [4] + [0] * 7)

    def test_several_guards_of_one_number_and_of_several(self):
        rows = [("more", 0, -1), ("more", 1, -1), ("more", 2, -1), ("jump", 0, 0)]
        for one in range(3):
            for two in range(3):
                for n in (4, 5):
                    wishes = [(("before", 1), ("guard", 4, one)), (("after", 3), ("guard", n, two)),
                              (("way", 1, 2), ("guard", 4, 2))]
                    self.held(rows, wishes, [3, 2, 2] + [0] * 5)

    def test_a_halt_of_the_old_rows_with_the_same_number(self):
        rows = [("more", 0, -1), ("zero", 0, 3, 0), ("jump", 0, 0), ("halt", 7)]
        for start in (1, 3):
            self.held(rows, [(("before", 3), ("guard", 7, 1)), (("before", 0), ("guard", 7, 2))], [start] + [0] * 7)
            self.held(rows, [(("before", 3), ("guard", 7, 1))], [start, -1] + [0] * 6)


class Layouts(Case):
    def test_jumps_that_must_become_long(self):
        # The distance back is -64, and whatever is put in between makes it greater.
        rows = [("more", 1, 1)] + [("tell", 0)] * 61 + [("below", 1, 0, 0), STOP]
        check_layout(rows)
        grown = 0
        for place in (("before", 30), ("after", 5), ("way", 62, 0), ("before", 0), ("way", 62, 63)):
            for what in WHATS:
                new, paper = self.formed(rows, [(place, what)])
                grown += new[paper["leads"].index(62)][-1]
                self.held(rows, [(place, what)], [0, -2] + [0] * 6, most=300)
        self.assertGreater(grown, 10)

    def test_jumps_ahead_that_must_become_long(self):
        rows = [("zero", 0, 64, 0)] + [("tell", 0)] * 63 + [STOP]
        check_layout(rows)
        for place, far in ((("before", 30), 1), (("before", 64), 0), (("before", 0), 0), (("way", 0, 1), 1)):
            new, paper = self.formed(rows, [(place, ("look", 1, 0))])
            self.assertEqual(new[paper["leads"].index(0)], ("zero", 0, new[paper["leads"].index(0)][2], far))
            for number in (0, 1):
                self.held(rows, [(place, ("look", 1, 0))], [number] * 8, most=100)

    def test_old_long_ones_stay_long(self):
        rows = [("jump", 1, 1), ("zero", 0, 2, 1), ("below", 0, 3, 1), ("call", 5, 1), STOP, ("mark", 6, 1), ("back",)]
        new, paper = self.formed(rows, [(("before", 1), ("count", 1))])
        self.assertEqual(paper["forms"], [1, 1, 1, 1, 0, 1, 0])
        for row, lead in zip(new, paper["leads"]):
            if lead is not None and row[0] in JUMPING:
                self.assertEqual(row[-1], 1)
        self.held(rows, [(("after", 3), ("count", 1))], NOUGHTS, {}, [0])

    def test_rows_that_are_not_laid_out_well(self):
        rows = [("zero", 0, 100, 0)] + [("tell", 0)] * 99 + [STOP]
        new, paper = self.formed(rows, [(("before", 3), ("count", 1))])
        self.assertEqual(paper["forms"], [0] * 101)
        self.held(rows, [(("before", 3), ("count", 1))], [1] * 8, most=200)

    def test_as_much_as_is_promised(self):
        # 200 rows, 200 places at which the wishes see, each a count on a way of its own.
        rows = [("table", 0, tuple(range(20, 36)))] * 11 + [("table", 0, tuple(range(20, 32)))]
        rows += [("tell", 1)] * 20 + [("more", 0, -1), ("mark", 0, 0), ("below", 0, 0, 0)] * 55 + [("tell", 1)] * 2 + [STOP]
        wishes = [(("after", r), ("count", r % 3)) for r in range(12)]
        self.assertEqual((len(rows), sum(len(ways_of(rows, r)) for r in range(12))), (200, 200))
        for number in range(18):
            self.held(rows, wishes, [number] + [0] * 7, {}, [3, 5, 8], 300)
        reading = self.held([("mark", 0, 0)] * 199 + [STOP], [(("after", r), ("guard", r, 1)) for r in range(12)],
                            NOUGHTS, {}, range(0, 300, 7), 300)
        self.assertEqual(len(reading["rows"]), 300)


class Drawn(Case):
    def drawn(self, seed, how_often, how_many):
        draw = random.Random(seed)
        endings, words, long_ones = set(), set(), 0
        for k in range(how_often):
            rows = lively_program(draw, draw.choice(how_many))
            wishes = random_wishes(draw, rows, draw.choice((1, 2, 5, 12)))
            new, paper = self.formed(rows, wishes)
            long_ones += any(lead is not None and row[-1] != rows[lead][-1] and row[0] in JUMPING
                             for row, lead in zip(new, paper["leads"]))
            for j in range(3):
                boxes, cells, bells = random_beginning(draw)
                most = draw.choice((1, 2, 5, 50))
                reading = self.held(rows, wishes, boxes, cells, bells, most, (new, paper))
                endings.add(reading["ending"] and reading["ending"][0])
                words.update(rows[r][0] for r in reading["rows"])
        self.assertEqual(endings, {None, "stop", "halt", "home"})
        self.assertEqual(len(words), 20)
        return long_ones

    def test_small_ones(self):
        self.drawn(52, 700, (1, 2, 3, 5, 8, 12))

    def test_greater_ones(self):
        self.assertGreater(self.drawn(53, 60, (40, 80, 150, 200)), 10)

    def test_widened_twice(self):
        draw = random.Random(54)
        for k in range(150):
            rows = lively_program(draw, draw.randrange(1, 10))
            new, paper = self.formed(rows, random_wishes(draw, rows, 4))
            again = random_wishes(draw, new, 5)
            for j in range(2):
                boxes, cells, bells = random_beginning(draw)
                self.held(new, again, boxes, cells, bells, 80)


class Refused(Case):
    def test_rows_then_wishes(self):
        good = [(("before", 0), ("count", 1))]
        for wishes in (good, [None], None, good * 13, []):
            for rows, at in (([], 0), (None, 0), ((STOP,), 0), ([STOP, None], 1), ([("tell", 0)], 0),
                             ([STOP, ("jump", 2, 0)], 1), ([STOP] * 4001, 4000)):
                with self.assertRaises(NoRows) as caught:
                    widened(rows, wishes)
                self.assertEqual(caught.exception.at, at)

    def test_wishes(self):
        good = (("before", 0), ("count", 1))
        for wishes, at in (([None], 0), (None, 0), ([good, (("after", 0), ("count", 1))], 1), ([good] * 13, 12),
                           ([good, (("before", 1), ("count", 1))], 1), ((good,), 0),
                           ([good] * 3 + [(("way", 0, 0), ("count", 1))], 3)):
            kept = copy.deepcopy(wishes)
            with self.assertRaises(NoWish) as caught:
                widened([STOP], wishes)
            self.assertEqual(caught.exception.at, at)
            self.assertEqual(wishes, kept)


class AskersOwn(Case):
    ROWS = [("keep", 0, 1), ("mark", 4, 0), ("see", 0, 1), STOP, ("more", 0, 1), ("table", 0, (1, 6)), ("back",)]
    WISHES = [(("after", 1), ("look", 1, 0)), (("before", 3), ("count", 2)), (("way", 5, 1), ("guard", 2, 3))]

    def test_what_is_handed_in_stays(self):
        rows, wishes = list(self.ROWS), list(self.WISHES)
        widened(rows, wishes)
        self.assertEqual((rows, wishes), (self.ROWS, self.WISHES))

    def test_what_is_told_is_the_askers_own(self):
        rows, wishes = list(self.ROWS), list(self.WISHES)
        told = widened(rows, wishes)
        kept = copy.deepcopy(told)
        held = lists_within(told)
        self.assertEqual(len({id(one) for one in held}), len(held))
        self.assertNotIn(id(rows), [id(one) for one in held])
        spoil(rows)
        spoil(wishes)
        self.assertEqual(told, kept)
        spoil(told)
        self.assertEqual(widened(list(self.ROWS), list(self.WISHES)), kept)

    def test_without_wishes_too(self):
        rows = list(self.ROWS)
        new, paper = widened(rows, [])
        self.assertIsNot(new, rows)
        spoil((new, paper))
        self.assertEqual(rows, self.ROWS)

    def test_kinds(self):
        told = widened(list(self.ROWS), list(self.WISHES))
        self.assertIs(type(told), tuple)
        new, paper = told
        self.assertIs(type(new), list)
        self.assertIs(type(paper), dict)
        self.assertEqual([type(part) for part in paper.values()], [list] * 4)
        self.assertTrue(all(type(row) is tuple for row in new + paper["free"] + paper["counts"]))


if __name__ == "__main__":
    unittest.main()

import copy
import random
import unittest

from samples import NO_NUMBERS, STOP, all_places, lively_program, paper_of, random_beginning, random_wishes, spoil
from widenrows.errors import NoWish, RowError
from widenrows.free import free_boxes
from widenrows.machine import Machine
from widenrows.out import places_led, taken_out
from widenrows.papers import check_paper
from widenrows.rows import check_rows
from widenrows.ways import ways_of
from widenrows.widen import widened

# Rows put in by hand: ahead of the first row, on the ways from row 1, behind the last row; rows 3 and 4 exchanged.
OLD = [("tell", 0), ("table", 1, (3, 0, 4, 3)), ("zero", 2, 2, 1), ("call", 1, 0), ("jump", 0, 1), STOP]
NEW = [
    ("see", 0, 1), ("tell", 0), ("jump", 4, 0), ("jump", 0, 0), ("table", 1, (11, 13, 9, 14)), ("see", 1, 2),
    ("zero", 2, 6, 0), ("jump", 14, 0), ("halt", 9), ("jump", 13, 1), STOP,
    ("below", 3, 8, 0), ("jump", 14, 0), ("jump", 0, 0), ("call", 4, 0), ("jump", 9, 0),
]
LEADS = [None, 0, None, None, 1, None, 2, None, None, 4, 5, None, None, None, 3, None]


class Case(unittest.TestCase):
    def out(self, old, new, leads):
        check_rows(old)
        check_rows(new)
        paper = paper_of(old, leads)
        check_paper(old, new, paper)
        with self.subTest(old=old, new=new):
            told = taken_out(new, paper)
            self.assertEqual(told, old)
            self.assertIs(type(told), list)
            self.assertTrue(all(type(row) is tuple for row in told))


class TakenOut(Case):
    def test_rows_beside_themselves(self):
        self.out(OLD, OLD, range(6))
        self.out([STOP], [STOP], [0])

    def test_rows_put_in_by_hand(self):
        self.out(OLD, NEW, LEADS)

    def test_far_as_forms_tell(self):
        old = [("jump", 1, 1), ("zero", 0, 0, 0), ("below", 1, 3, 1), ("call", 4, 0), ("mark", 0, 1), STOP]
        for k in range(32):
            new = [row[:-1] + ((k >> n) & 1,) if n < 5 else row for n, row in enumerate(old)]
            self.out(old, new, range(6))

    def test_walks_with_halts(self):
        old = [("zero", 0, 2, 0), ("tell", 1), STOP]
        new = [("zero", 0, 4, 0), ("below", 1, 6, 0), ("tell", 1), STOP, ("below", 2, 6, 0), ("jump", 3, 0), ("halt", 5)]
        self.out(old, new, [0, None, 1, 2, None, None, None])
        # The halt stands where the walk goes on, the old row where it jumps.
        new = [("zero", 0, 4, 0), ("below", 1, 2, 0), ("tell", 1), STOP, ("below", 2, 3, 0), ("halt", 5)]
        self.out(old, new, [0, None, 1, 2, None, None])

    def test_a_target_whose_walk_halts_always(self):
        old = [("zero", 0, 2, 0), ("tell", 1), STOP]
        new = [("zero", 0, 3, 0), ("tell", 1), STOP, ("halt", 1)]
        paper = paper_of(old, [0, 1, 2, None])
        check_paper(old, new, paper)
        told = taken_out(new, paper)
        # What the target is, is not promised; all else is.
        self.assertEqual(told[1:], old[1:])
        self.assertEqual((told[0][:2], told[0][3]), (("zero", 0), 0))
        self.assertIsNone(check_rows(told))

    def test_widened_rows(self):
        draw = random.Random(71)
        for k in range(200):
            rows = lively_program(draw, draw.randrange(1, 30))
            new, paper = widened(rows, random_wishes(draw, rows, draw.randrange(13)))
            self.assertEqual(taken_out(new, paper), rows)

    def test_rows_widened_again_and_again(self):
        draw = random.Random(72)
        for k in range(30):
            programs, papers = [lively_program(draw, draw.randrange(1, 12))], []
            for j in range(3):
                new, paper = widened(programs[-1], random_wishes(draw, programs[-1], 3))
                programs.append(new)
                papers.append(paper)
            rows = programs[-1]
            for old, paper in zip(programs[-2::-1], papers[::-1]):
                rows = taken_out(rows, paper)
                self.assertEqual(rows, old)

    def test_a_long_walk(self):
        old = [("jump", 1, 0), STOP]
        new = [("jump", 2, 0), STOP] + [("see", 0, 1)] * 1999 + [("jump", 1, 1)]
        self.out(old, new, [0, 1] + [None] * 2000)

    def test_only_leads_and_forms_are_needed(self):
        paper = paper_of(OLD, LEADS)
        self.assertEqual(taken_out(NEW, {"leads": paper["leads"], "forms": paper["forms"]}), OLD)

    def test_what_is_handed_in_stays(self):
        new, paper = list(NEW), paper_of(OLD, LEADS)
        kept = copy.deepcopy((new, paper))
        told = taken_out(new, paper)
        self.assertEqual((new, paper), kept)
        spoil(told)
        self.assertEqual((new, paper), kept)
        told = taken_out(new, paper)
        spoil((new, paper))
        self.assertEqual(told, OLD)


class PlacesLed(Case):
    def led(self, place, expected):
        paper = paper_of(OLD, LEADS)
        check_paper(OLD, NEW, paper)
        with self.subTest(place=place):
            told = places_led(OLD, NEW, paper, place)
            self.assertEqual(told, expected)
            self.assertIs(type(told), list)
            self.assertTrue(all(type(one) is tuple for one in told))

    def test_before_and_after(self):
        for r, n in enumerate((1, 4, 6, 14, 9, 10)):
            self.led(("before", r), [("before", n)])
            if r != 5:
                self.led(("after", r), [("after", n)])

    def test_ways(self):
        self.led(("way", 0, 1), [("way", 1, 2)])
        self.led(("way", 1, 0), [("way", 4, 13)])
        self.led(("way", 1, 2), [("way", 4, 5)])
        # Two ways out lead to row 3: over row 11, and straight to row 14.
        self.led(("way", 1, 3), [("way", 4, 11), ("way", 4, 14)])
        self.led(("way", 1, 4), [("way", 4, 9)])
        self.led(("way", 2, 3), [("way", 6, 7)])
        self.led(("way", 2, 2), [("way", 6, 6)])
        self.led(("way", 3, 1), [("way", 14, 4)])
        self.led(("way", 3, 4), [("way", 14, 15)])
        self.led(("way", 4, 0), [("way", 9, 13)])

    def test_going_on_and_a_target_to_one_row(self):
        old = [("zero", 0, 1, 0), STOP]
        new = [("zero", 0, 3, 0), ("jump", 2, 0), STOP, ("see", 0, 1), ("jump", 1, 0)]
        paper = paper_of(old, [0, None, 1, None, None])
        check_paper(old, new, paper)
        self.assertEqual(places_led(old, new, paper, ("way", 0, 1)), [("way", 0, 1), ("way", 0, 3)])
        new = [("zero", 0, 1, 0), ("see", 0, 1), STOP]
        paper = paper_of(old, [0, None, 1])
        check_paper(old, new, paper)
        self.assertEqual(places_led(old, new, paper, ("way", 0, 1)), [("way", 0, 1)])

    def test_a_walk_that_two_share(self):
        # Both rows jump to the same rows put in.
        old = [("zero", 0, 3, 0), ("below", 0, 3, 0), STOP, STOP]
        new = [("zero", 0, 4, 0), ("below", 0, 4, 0), STOP, STOP, ("see", 0, 1), ("jump", 3, 0)]
        paper = paper_of(old, [0, 1, 2, 3, None, None])
        check_paper(old, new, paper)
        for r in (0, 1):
            self.assertEqual(places_led(old, new, paper, ("way", r, 3)), [("way", r, 4)])

    def test_they_are_sorted(self):
        old = [("table", 0, (1,) * 16), STOP]
        new = [("table", 0, tuple(range(17, 1, -1))), STOP] + [("jump", 1, 0)] * 16
        paper = paper_of(old, [0, 1] + [None] * 16)
        check_paper(old, new, paper)
        self.assertEqual(places_led(old, new, paper, ("way", 0, 1)), [("way", 0, n) for n in range(1, 18)])

    def test_ways_on_which_all_branches_halt_are_not_led(self):
        old = [("table", 0, (1, 1)), STOP]
        new = [("table", 0, (2, 3)), STOP, ("halt", 1), ("jump", 1, 0)]
        paper = paper_of(old, [0, 1, None, None])
        check_paper(old, new, paper)
        self.assertEqual(places_led(old, new, paper, ("way", 0, 1)), [("way", 0, 1), ("way", 0, 3)])

    def test_each_place_of_widened_rows(self):
        draw = random.Random(73)
        for k in range(120):
            rows = lively_program(draw, draw.randrange(1, 15))
            new, paper = widened(rows, random_wishes(draw, rows, draw.randrange(13)))
            at = {lead: n for n, lead in enumerate(paper["leads"]) if lead is not None}
            led = {place: places_led(rows, new, paper, place) for place in all_places(rows)}
            for r in range(len(rows)):
                self.assertEqual(led["before", r], [("before", at[r])])
                # Each way out of the new row is a place of just one way of the old one.
                ways = [place for s in ways_of(rows, r) for place in led["way", r, s]]
                self.assertEqual(sorted(ways), [("way", at[r], n) for n in ways_of(new, at[r])])
                if ways:
                    self.assertEqual(led["after", r], [("after", at[r])])


class Refused(Case):
    def refused(self, place):
        paper = paper_of(OLD, LEADS)
        with self.subTest(place=place):
            with self.assertRaises(RowError) as caught:
                places_led(OLD, NEW, paper, place)
            self.assertIs(type(caught.exception), NoWish)
            self.assertEqual(caught.exception.at, 0)

    def test_places_of_new_rows_alone(self):
        # Row 6 and 14 are rows of the new program, not of the old one.
        for place in (("before", 6), ("before", 14), ("after", 14), ("way", 4, 11), ("way", 14, 15), ("way", 1, 11)):
            self.refused(place)

    def test_wrong_in_one_thing_alone(self):
        for place in (("before", -1), ("after", 5), ("after", 6), ("after", -1), ("way", 0, 0), ("way", 0, 2),
                      ("way", 5, 0), ("way", 6, 1), ("way", -1, 0), ("way", 1, 1), ("way", 1, 5), ("way", 1, -1),
                      ("way", 4, 5), ("before", 0, 1), ("after", 0, 1), ("way", 0), ("way", 0, 1, 2), ("before",), (),
                      ("on", 0), ("Before", 0), ["before", 0], "before 0", None, 0, ("before", "0"), (0, "before")):
            self.refused(place)

    def test_no_numbers(self):
        for thing in NO_NUMBERS:
            for place in (("before", thing), ("after", thing), ("way", thing, 1), ("way", 0, thing)):
                self.refused(place)


class OneByOne(Case):
    """Wishes put in one behind the other, led by the papers, and at once."""

    def seen_with(self, rows, boxes, cells, bells, places):
        machine = Machine(rows, boxes, cells, bells)
        machine.run(4000)
        seen = {}
        for n, number in machine.seen():
            seen.setdefault(n, []).append(number)
        counts = {n: machine.asides().get(aside, 0) for n, aside in places}
        return seen, counts, machine.ending()

    def one_by_one(self, rows, wishes):
        """The rows with each wish put in behind the others, and where the counts are."""
        steps, here, counts = [], rows, []
        for place, what in wishes:
            places = [place]
            for old, new, paper in steps:
                places = [led for one in places for led in places_led(old, new, paper, one)]
            new, paper = widened(here, [(led, what) for led in places])
            check_paper(here, new, paper)
            steps.append((here, new, paper))
            here = new
            counts += paper["counts"]
        for old, new, paper in steps[::-1]:
            self.assertEqual(taken_out(new, paper), old)
        return here, counts

    def few_wishes(self, draw, rows):
        """Looks and counts, each with another N, looks only at boxes that are not free where they come to."""
        free = free_boxes(rows)
        wishes = []
        for k in range(draw.randrange(1, 5)):
            place = draw.choice(all_places(rows))
            comes_to = {"before": [place[1]], "after": ways_of(rows, place[1]), "way": [place[-1]]}[place[0]]
            boxes = [box for box in range(8) if not any(box in free[s] for s in comes_to)]
            # No N of an old see row, which is at most 2 or 10**6 or 4.
            what = ("look", 10 + k, draw.choice(boxes)) if boxes and draw.random() < 0.6 else ("count", 10 + k)
            wishes.append((place, what))
        return wishes

    def test_drawn(self):
        draw = random.Random(74)
        held = 0
        for k in range(400):
            rows = lively_program(draw, draw.randrange(1, 12))
            wishes = self.few_wishes(draw, rows)
            at_once, paper = widened(rows, wishes)
            behind, counts = self.one_by_one(rows, wishes)
            for j in range(3):
                beginning = random_beginning(draw)
                one = self.seen_with(at_once, *beginning, paper["counts"])
                two = self.seen_with(behind, *beginning, counts)
                if one[2] is not None:
                    self.assertEqual(one, two)
                    held += sum(one[1].values()) > 0
        self.assertGreater(held, 150)

    def test_each_place(self):
        rows = [("more", 0, -1), ("table", 1, (3, 2, 3)), ("call", 5, 0), ("mark", 5, 0), ("jump", 7, 0), ("more", 1, 1),
                ("back",), ("zero", 0, 9, 0), ("jump", 0, 0), STOP]
        for one in all_places(rows):
            for two in all_places(rows):
                wishes = [(one, ("look", 5, 0)), (two, ("count", 6)), (one, ("count", 7)), (two, ("look", 8, 1))]
                at_once, paper = widened(rows, wishes)
                behind, counts = self.one_by_one(rows, wishes)
                for bells in ([], [1, 2]):
                    self.assertEqual(self.seen_with(at_once, [4] + [0] * 7, {}, bells, paper["counts"]),
                                     self.seen_with(behind, [4] + [0] * 7, {}, bells, counts))


if __name__ == "__main__":
    unittest.main()

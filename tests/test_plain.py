import copy
import random
import unittest

from samples import STOP, lists_within, lively_program, plain_reading, random_beginning, random_wishes, spoil
from widenrows.errors import NoRows, NoWish
from widenrows.plain import plain_seen
from widenrows.rows import check_rows

NOUGHTS = [0] * 8


class Case(unittest.TestCase):
    def told(self, program, wishes, most, boxes=NOUGHTS, cells=(), bells=(), **expected):
        check_rows(program)
        told = plain_seen(program, wishes, list(boxes), dict(cells), list(bells), most)
        with self.subTest(most=most, wishes=wishes):
            self.assertEqual(set(told), {"seen", "counts", "rows", "ending"})
            for key, part in expected.items():
                self.assertEqual(told[key], part, key)
        return told


class HowFar(Case):
    # Box 0 counts down from 2; the run stands at 9 rows, then stops.
    ROWS = [("zero", 0, 4, 0), ("see", 0, 9), ("more", 0, -1), ("jump", 0, 0), STOP]
    STOOD = [0, 1, 2, 3, 0, 1, 2, 3, 0, 4]
    WISHES = [(("before", 0), ("count", 1)), (("before", 4), ("look", 2, 0)), (("after", 0), ("count", 3))]

    def test_most_0(self):
        told = self.told(self.ROWS, self.WISHES, 0, [2] + [0] * 7, seen=[], counts={1: 0, 3: 0}, rows=[], ending=None)
        self.assertEqual(told, plain_seen([STOP], self.WISHES[:1] + [(("before", 0), ("count", 3))], [-1] * 8, {}, [],
                                          0))
        self.told([STOP], [(("before", 0), ("guard", 1, 0))], 0, [-1] * 8, rows=[], ending=None)

    def test_most_1(self):
        self.told(self.ROWS, self.WISHES, 1, [2] + [0] * 7, seen=[], counts={1: 1, 3: 0}, rows=[0], ending=None)
        self.told([STOP], [], 1, seen=[], counts={}, rows=[0], ending=None)
        self.told([("see", 0, 1), STOP], [], 1, seen=[], rows=[0], ending=None)

    def test_each_number_of_rows(self):
        seen_at = {2: (9, 2), 6: (9, 1), 9: (2, 0)}
        for most in range(10):
            seen = [seen_at[k] for k in sorted(seen_at) if k < most]
            counts = {1: self.STOOD[:most].count(0), 3: self.STOOD[:max(0, most - 1)].count(0)}
            self.told(self.ROWS, self.WISHES, most, [2] + [0] * 7, seen=seen, counts=counts, rows=self.STOOD[:most],
                      ending=None)

    def test_as_many_as_the_run_has_and_more(self):
        expected = {"seen": [(9, 2), (9, 1), (2, 0)], "counts": {1: 3, 3: 3}, "rows": self.STOOD}
        self.told(self.ROWS, self.WISHES, 10, [2] + [0] * 7, ending=None, **expected)
        for most in (11, 12, 500, 10**30):
            self.told(self.ROWS, self.WISHES, most, [2] + [0] * 7, ending=("stop",), **expected)

    def test_each_ending(self):
        for row, ending in ((STOP, ("stop",)), (("back",), ("home",)), (("halt", 4), ("halt", 4))):
            self.told([row], [], 1, rows=[0], ending=None)
            told = self.told([row], [], 2, rows=[0], ending=ending)
            self.assertIs(type(told["ending"]), tuple)

    def test_no_end(self):
        self.told([("jump", 0, 0)], [(("after", 0), ("count", 0))], 3000, rows=[0] * 3000, counts={0: 2999},
                  ending=None)


class Places(Case):
    def test_before_the_first_row_at_the_beginning(self):
        self.told([("tell", 0), STOP], [(("before", 0), ("look", 5, 1))], 9, [0, 7] + [0] * 6, seen=[(5, 7)])
        self.told([("zero", 0, 0, 0), STOP], [(("way", 0, 0), ("count", 5))], 4, counts={5: 3}, rows=[0] * 4)
        self.told([("zero", 0, 0, 0), STOP], [(("after", 0), ("count", 5))], 1, counts={5: 0}, rows=[0])

    def test_a_way_alone(self):
        rows = [("zero", 0, 2, 0), STOP, STOP]
        for number, ways in ((0, {1: 0, 2: 1}), (1, {1: 1, 2: 0})):
            self.told(rows, [(("way", 0, 1), ("count", 1)), (("way", 0, 2), ("count", 2))], 9, [number] * 8,
                      counts=ways)

    def test_a_way_that_two_share(self):
        for number in (0, 1, 2, 3):
            self.told([("table", 0, (2, 1, 2)), STOP, STOP], [(("way", 0, 1), ("count", 1)),
                                                             (("way", 0, 2), ("count", 2)),
                                                             (("after", 0), ("count", 3))], 9, [number] * 8,
                      counts={1: int(number in (1, 3)), 2: int(number in (0, 2)), 3: 1})

    def test_the_order_on_a_way(self):
        rows = [("tell", 0), STOP]
        wishes = [(("before", 1), ("look", 1, 0)), (("way", 0, 1), ("look", 2, 0)), (("before", 0), ("look", 3, 0)),
                  (("after", 0), ("look", 4, 0)), (("before", 1), ("look", 5, 0)), (("way", 0, 1), ("look", 6, 0))]
        told = self.told(rows, wishes, 9)
        self.assertEqual([n for n, number in told["seen"]], [3, 2, 4, 6, 1, 5])
        told = self.told(rows, wishes[::-1], 9)
        self.assertEqual([n for n, number in told["seen"]], [3, 6, 4, 2, 5, 1])

    def test_a_call_as_it_calls_and_as_it_comes_home(self):
        rows = [("call", 2, 0), STOP, ("more", 0, 1), ("back",)]
        told = self.told(rows, [(("after", 0), ("look", 1, 0))], 9, seen=[(1, 0), (1, 1)])
        self.assertEqual(told["rows"], [0, 2, 3, 1])
        self.told(rows, [(("way", 0, 2), ("look", 1, 0))], 9, seen=[(1, 0)])
        self.told(rows, [(("way", 0, 1), ("look", 1, 0))], 9, seen=[(1, 1)])
        self.told(rows, [(("before", 1), ("look", 1, 0))], 9, seen=[(1, 1)])

    def test_a_call_of_the_row_behind_it(self):
        # It calls row 1 and comes home to row 1: both on the one way; then row 1 ends the run.
        rows = [("call", 1, 0), ("more", 0, 1), ("back",)]
        self.told(rows, [(("way", 0, 1), ("look", 1, 0)), (("after", 0), ("count", 1))], 9, seen=[(1, 0), (1, 1)],
                  counts={1: 2}, rows=[0, 1, 2, 1, 2], ending=("home",))

    def test_calls_within_calls_come_home_on_their_own_ways(self):
        rows = [("call", 2, 0), STOP, ("call", 4, 0), ("back",), ("back",)]
        for place, count in ((("way", 0, 2), 1), (("way", 2, 4), 1), (("way", 2, 3), 1), (("way", 0, 1), 1),
                             (("after", 0), 2), (("after", 2), 2)):
            self.told(rows, [(place, ("count", 0))], 9, counts={0: count})

    def test_marks_rung_and_not(self):
        rows = [("mark", 2, 0), STOP, ("more", 0, 1), ("back",)]
        places = (("after", 0), ("way", 0, 1), ("way", 0, 2), ("before", 1))
        wishes = [(place, ("look", n, 0)) for n, place in enumerate(places)]
        self.told(rows, wishes, 9, seen=[(0, 0), (1, 0), (3, 0)], rows=[0, 1])
        self.told(rows, wishes, 9, bells=[0], seen=[(0, 0), (2, 0), (0, 1), (1, 1), (3, 1)], rows=[0, 2, 3, 1])

    def test_a_back_that_ends_the_run_passes_no_way(self):
        rows = [("jump", 2, 0), STOP, ("back",)]
        self.told(rows, [(("after", 0), ("count", 1)), (("before", 1), ("count", 2))], 9, counts={1: 1, 2: 0},
                  ending=("home",))


class Whats(Case):
    def test_each_box(self):
        boxes = [4, -5, 6, 0, 8, 9, -10, 11]
        for box in range(8):
            self.told([STOP], [(("before", 0), ("look", 3, box))], 9, boxes, seen=[(3, boxes[box])])
            ended = boxes[box] < 0
            self.told([STOP], [(("before", 0), ("guard", 3, box))], 9, boxes, rows=[] if ended else [0],
                      ending=("halt", 3) if ended else ("stop",))

    def test_what_a_row_did_is_seen_behind_it(self):
        rows = [("set", 0, 5), ("more", 0, 1), STOP]
        self.told(rows, [(("before", r), ("look", r, 0)) for r in range(3)], 9, seen=[(0, 0), (1, 5), (2, 6)])
        self.told(rows, [(("after", r), ("look", r, 0)) for r in range(2)], 9, seen=[(0, 5), (1, 6)])

    def test_old_see_rows_among_the_looks(self):
        rows = [("see", 0, 1), ("see", 1, 1), STOP]
        self.told(rows, [(("before", 1), ("look", 1, 2)), (("after", 1), ("look", 7, 3))], 9, [5, 6, 7, 8, 0, 0, 0, 0],
                  seen=[(1, 5), (1, 7), (1, 6), (7, 8)])

    def test_counts_of_the_same_number(self):
        wishes = [(("before", 0), ("count", 4)), (("after", 0), ("count", 4)), (("before", 1), ("count", 4)),
                  (("before", 1), ("count", 4)), (("before", 2), ("count", 5)), (("before", 1), ("look", 6, 0))]
        self.told([("tell", 0), STOP, STOP], wishes, 9, counts={4: 4, 5: 0}, seen=[(6, 0)])

    def test_numbers_at_their_bounds(self):
        wishes = [(("before", 0), ("count", 10**6)), (("before", 0), ("look", 10**6, 7)), (("before", 0), ("count", 0))]
        self.told([STOP], wishes, 2, counts={10**6: 1, 0: 1}, seen=[(10**6, 0)])

    def test_cells_are_loaded(self):
        self.told([("load", 0, 1), STOP], [(("before", 1), ("look", 0, 0))], 9, [0, -3] + [0] * 6, {-3: 10**40},
                  seen=[(0, 10**40)])


class Guards(Case):
    def test_at_the_first_row(self):
        wishes = [(("before", 0), ("count", 1)), (("before", 0), ("guard", 7, 0)), (("before", 0), ("count", 1)),
                  (("before", 0), ("look", 2, 0))]
        self.told([("see", 0, 3), STOP], wishes, 9, [-1] + [0] * 7, seen=[], counts={1: 1}, rows=[],
                  ending=("halt", 7))
        self.told([("see", 0, 3), STOP], wishes, 9, seen=[(2, 0), (3, 0)], counts={1: 2}, rows=[0, 1],
                  ending=("stop",))

    def test_within_one_row(self):
        self.told([STOP], [(("before", 0), ("guard", 7, 0))], 1, [-1] + [0] * 7, rows=[], ending=("halt", 7))

    def test_on_a_way(self):
        rows = [("more", 0, -1), ("zero", 1, 0, 0), STOP]
        wishes = [(("way", 1, 0), ("guard", 7, 0)), (("before", 0), ("count", 1)), (("way", 1, 0), ("look", 2, 0))]
        self.told(rows, wishes, 9, [2] + [0] * 7, seen=[(2, 1), (2, 0)], counts={1: 3}, rows=[0, 1, 0, 1, 0, 1],
                  ending=("halt", 7))

    def test_it_ends_the_run_only_where_it_is_come_to(self):
        rows = [("set", 0, -1), ("tell", 0), STOP]
        wishes = [(("before", 1), ("guard", 7, 0))]
        self.told(rows, wishes, 1, rows=[0], ending=None)
        for most in (2, 3, 9):
            self.told(rows, wishes, most, rows=[0], ending=("halt", 7))

    def test_after_a_call_as_it_comes_home(self):
        rows = [("call", 2, 0), STOP, ("set", 0, -4), ("back",)]
        self.told(rows, [(("after", 0), ("guard", 6, 0))], 9, rows=[0, 2, 3], ending=("halt", 6))
        self.told(rows, [(("after", 0), ("guard", 6, 0))], 9, [-1] + [0] * 7, rows=[0], ending=("halt", 6))
        self.told(rows, [(("way", 0, 1), ("guard", 6, 0))], 9, [-1] + [0] * 7, rows=[0, 2, 3], ending=("halt", 6))
        self.told(rows, [(("way", 0, 2), ("guard", 6, 0))], 9, rows=[0, 2, 3, 1], ending=("stop",))

    def test_the_first_of_several(self):
        wishes = [(("before", 0), ("guard", 5, 1)), (("before", 0), ("guard", 4, 0)), (("before", 0), ("guard", 3, 0))]
        self.told([STOP], wishes, 9, [-1] + [0] * 7, ending=("halt", 4))

    def test_nought_and_more_are_let_by(self):
        for number in (0, 1, 10**30):
            self.told([STOP], [(("before", 0), ("guard", 5, 0))], 9, [number] * 8, rows=[0], ending=("stop",))
        self.told([STOP], [(("before", 0), ("guard", 5, 0))], 9, [-10**30] * 8, rows=[], ending=("halt", 5))


class Drawn(Case):
    def test_against_another_reading(self):
        draw = random.Random(41)
        endings, words = set(), set()
        for k in range(1500):
            rows = lively_program(draw, draw.randrange(1, 14))
            wishes = random_wishes(draw, rows, draw.randrange(13))
            boxes, cells, bells = random_beginning(draw)
            most = draw.choice((0, 1, 2, 3, 10, 60))
            told = plain_seen(rows, wishes, boxes, cells, bells, most)
            self.assertEqual(told, plain_reading(rows, wishes, boxes, cells, bells, most))
            endings.add(told["ending"] and told["ending"][0])
            words.update(rows[r][0] for r in told["rows"])
        self.assertEqual(endings, {None, "stop", "halt", "home"})
        self.assertEqual(len(words), 20)


class Refused(Case):
    def test_rows_then_wishes(self):
        good = [(("before", 0), ("count", 1))]
        for wishes in (good, [None], None, good * 13):
            for rows, at in (([], 0), (None, 0), ([STOP, None], 1), ([("tell", 0)], 0), ([STOP] * 4001, 4000)):
                with self.assertRaises(NoRows) as caught:
                    plain_seen(rows, wishes, list(NOUGHTS), {}, [], 5)
                self.assertEqual(caught.exception.at, at)

    def test_wishes(self):
        good = (("before", 0), ("count", 1))
        for most in (0, 5):
            for wishes, at in (([None], 0), (None, 0), ([good, (("after", 0), ("count", 1))], 1), ([good] * 13, 12),
                               ([good, (("before", 1), ("count", 1))], 1), ((good,), 0)):
                with self.assertRaises(NoWish) as caught:
                    plain_seen([STOP], wishes, list(NOUGHTS), {}, [], most)
                self.assertEqual(caught.exception.at, at)


class AskersOwn(Case):
    ROWS = [("keep", 0, 1), ("mark", 4, 0), ("see", 0, 1), STOP, ("more", 0, 1), ("back",)]
    WISHES = [(("after", 1), ("look", 1, 0)), (("before", 3), ("count", 2))]

    def test_what_is_handed_in_stays(self):
        handed = (list(self.ROWS), list(self.WISHES), [5] * 8, {5: 6}, [0])
        kept = copy.deepcopy(handed)
        for most in (0, 3, 50):
            plain_seen(*handed, most)
            self.assertEqual(handed, kept)

    def test_what_is_told_is_the_askers_own(self):
        handed = (list(self.ROWS), list(self.WISHES), [5] * 8, {5: 6}, [0])
        told = plain_seen(*handed, 50)
        kept = copy.deepcopy(told)
        held = lists_within(told)
        self.assertEqual(len({id(one) for one in held}), len(held))
        spoil(handed)
        self.assertEqual(told, kept)
        handed = (list(self.ROWS), list(self.WISHES), [5] * 8, {5: 6}, [0])
        spoil(told)
        self.assertEqual(plain_seen(*handed, 50), kept)

    def test_kinds(self):
        told = plain_seen(list(self.ROWS), list(self.WISHES), [5] * 8, {5: 6}, [0], 50)
        self.assertEqual({key: type(part) for key, part in told.items()},
                         {"seen": list, "counts": dict, "rows": list, "ending": tuple})
        self.assertTrue(all(type(one) is tuple for one in told["seen"]))


if __name__ == "__main__":
    unittest.main()

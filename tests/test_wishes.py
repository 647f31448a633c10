import copy
import unittest

from samples import FORMS, NO_NUMBERS, STOP, all_places
from widenrows.errors import NoWish, RowError
from widenrows.rows import check_rows
from widenrows.ways import ways_of
from widenrows.wishes import check_wishes

# Row 0 goes on and jumps, row 1 has three ways, row 2 one, row 3 none, row 4 calls, rows 5 and 6 have none.
ROWS = [("zero", 0, 3, 0), ("table", 1, (0, 4, 0, 2)), ("jump", 6, 1), STOP, ("call", 0, 0), ("back",), ("halt", 2)]
COUNT = ("count", 3)
HERE = ("before", 0)
NO_PLACES = (
    (), ("before",), ("after",), ("way",), ("way", 0), ("before", 0, 1), ("after", 0, 1), ("way", 0, 1, 3),
    ("Before", 0), ("before ", 0), ("", 0), ("on", 0), ("look", 0), (0, "before"), (b"before", 0), (None, 0),
    ((), 0), ([], 0), ({}, 0), (0, 0), ["before", 0], {"before": 0}, "before", "before 0", 0, None, True,
    (("before", 0),), ("before", (0,)), ("before", [0]),
)
NO_WHATS = (
    (), ("look",), ("count",), ("guard",), ("look", 1), ("guard", 1), ("look", 1, 2, 3), ("count", 1, 2),
    ("guard", 1, 2, 3), ("Look", 1, 2), ("count ", 1), ("", 1), ("see", 2, 1), ("before", 1), (1, "count"), (None, 1),
    ((), 1), ([], 1), ({}, 1), ["count", 1], {"count": 1}, "count", "count 1", 0, None, True, (("count", 1),),
)


class Case(unittest.TestCase):
    def setUp(self):
        check_rows(ROWS)

    def let_by(self, *wishes):
        with self.subTest(wishes=wishes):
            self.assertIsNone(check_wishes(ROWS, list(wishes)))

    def refused_all(self, wishes, at):
        kept = copy.deepcopy(wishes)
        with self.subTest(wishes=wishes):
            with self.assertRaises(NoWish) as caught:
                check_wishes(ROWS, wishes)
            self.assertIs(type(caught.exception), NoWish)
            self.assertIsInstance(caught.exception, RowError)
            self.assertEqual(caught.exception.at, at)
            self.assertIs(type(caught.exception.at), int)
            self.assertEqual(wishes, kept)

    def refused(self, wish):
        good = (HERE, COUNT)
        for ahead in (0, 1, 5, 11):
            self.refused_all([good] * ahead + [wish], ahead)
            self.refused_all([good] * ahead + [wish] + [good] * (11 - ahead), ahead)


class Places(Case):
    def test_none(self):
        self.let_by()

    def test_each_place(self):
        for place in all_places(ROWS):
            self.let_by((place, COUNT))
        self.assertEqual(len(all_places(ROWS)), 7 + 4 + 2 + 3 + 1 + 2)

    def test_before_each_row(self):
        for r in range(7):
            self.let_by((("before", r), COUNT))
        for r in (-1, 7, 8, -7, 10**9, 10**30, -10**30):
            self.refused((("before", r), COUNT))

    def test_after_rows_with_a_way_out(self):
        for r in (0, 1, 2, 4):
            self.let_by((("after", r), COUNT))
        for r in (3, 5, 6, -1, -3, 7, 10**30):
            self.refused((("after", r), COUNT))

    def test_each_way_that_is_and_that_is_none(self):
        for r in range(-1, 9):
            for s in range(-2, 9):
                if 0 <= r < 7 and s in ways_of(ROWS, r):
                    self.let_by((("way", r, s), COUNT))
                else:
                    self.refused((("way", r, s), COUNT))
        self.refused((("way", 0, 10**30), COUNT))
        self.refused((("way", 10**30, 1), COUNT))

    def test_each_word_of_a_row(self):
        for row, line, units in FORMS:
            rows = [row, STOP, STOP, STOP]
            ways = ways_of(rows, 0)
            for place, is_one in ((("before", 0), True), (("after", 0), bool(ways)), (("way", 0, 1), 1 in ways),
                                  (("way", 0, 3), 3 in ways)):
                with self.subTest(row=row, place=place):
                    if is_one:
                        self.assertIsNone(check_wishes(rows, [(place, COUNT)]))
                    else:
                        with self.assertRaises(NoWish):
                            check_wishes(rows, [(place, COUNT)])

    def test_what_is_no_number(self):
        for thing in NO_NUMBERS:
            for place in (("before", thing), ("after", thing), ("way", thing, 1), ("way", 0, thing), ("way", 1, thing)):
                self.refused((place, COUNT))

    def test_what_is_no_place(self):
        for place in NO_PLACES:
            self.refused((place, COUNT))


class Whats(Case):
    def test_bounds(self):
        for n in (0, 1, 10**6):
            self.let_by((HERE, ("count", n)))
            for box in range(8):
                self.let_by((HERE, ("look", n, box)))
                self.let_by((HERE, ("guard", n, box)))

    def test_just_beyond(self):
        for n in (-1, 10**6 + 1, 10**30, -10**30):
            for what in (("count", n), ("look", n, 0), ("guard", n, 0)):
                self.refused((HERE, what))
        for box in (-1, 8, 10**30, -10**30):
            for what in (("look", 0, box), ("guard", 0, box)):
                self.refused((HERE, what))

    def test_what_is_no_number(self):
        for thing in NO_NUMBERS:
            for what in (("count", thing), ("look", thing, 0), ("guard", thing, 0), ("look", 0, thing),
                         ("guard", 0, thing)):
                self.refused((HERE, what))

    def test_what_is_no_what(self):
        for what in NO_WHATS:
            self.refused((HERE, what))


class Wishes(Case):
    def test_what_is_no_wish(self):
        for wish in ((), (HERE,), (COUNT,), (HERE, COUNT, COUNT), (COUNT, HERE), [HERE, COUNT], HERE, COUNT, None, 0,
                     True, "", "before 0 count 3", {HERE: COUNT}, HERE + COUNT, ((HERE, COUNT),)):
            self.refused(wish)

    def test_what_is_no_list(self):
        good = (HERE, COUNT)
        for thing in NO_NUMBERS + ((), (good,), {0: good}, "wishes", 3, {good}):
            if type(thing) is not list:
                self.refused_all(thing, 0)

    def test_the_first_wrong_one(self):
        good, wrong = (HERE, COUNT), (HERE, ("count", -1))
        self.refused_all([good, wrong, None, wrong], 1)
        self.refused_all([good, good, None, wrong], 2)
        self.refused_all([None, wrong, good], 0)

    def test_the_same_twice_and_more(self):
        self.let_by((HERE, COUNT), (HERE, COUNT), (HERE, ("look", 3, 0)), (HERE, ("guard", 3, 0)))

    def test_twelve_and_thirteen(self):
        good, wrong = (HERE, COUNT), (("before", 7), COUNT)
        self.let_by(*[good] * 11)
        self.let_by(*[good] * 12)
        self.refused_all([good] * 13, 12)
        self.refused_all([good] * 14, 12)
        self.refused_all([good] * 1000, 12)
        self.refused_all([good] * 12 + [wrong], 12)
        self.refused_all([good] * 12 + [None, wrong], 12)
        for at in range(12):
            self.refused_all([good] * at + [wrong] + [good] * 12, at)
        self.refused_all([good] * 13 + [wrong], 12)

    def test_what_is_handed_in_stays(self):
        rows, wishes = list(ROWS), [(place, COUNT) for place in all_places(ROWS)[:12]]
        kept = copy.deepcopy((rows, wishes))
        check_wishes(rows, wishes)
        self.assertEqual((rows, wishes), kept)


if __name__ == "__main__":
    unittest.main()

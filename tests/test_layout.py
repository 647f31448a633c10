import copy
import itertools
import random
import unittest

from samples import FORMS, STOP, jumps_to, random_program
from widenrows.errors import NoLayout
from widenrows.layout import check_layout, least_layout
from widenrows.rows import check_rows

TELL = ("tell", 0)
JUMPS = ("jump", "zero", "below", "call", "mark")


SIZES = {row[0]: size for row, line, size in FORMS}


def size_of(row):
    if row[0] == "table":
        return 2 + len(row[2])
    return 1 + row[-1] if row[0] in JUMPS else SIZES[row[0]]


def distance_of(rows, r):
    target = rows[r][-2]
    ahead = sum(size_of(row) for row in rows[r + 1:target])
    behind = sum(size_of(row) for row in rows[target:r + 1])
    return ahead - behind


def wrong_rows(rows):
    begins = list(itertools.accumulate(map(size_of, rows), initial=0))
    return {r for r, row in enumerate(rows)
            if row[0] in JUMPS and row[-1] == 0 and not -64 <= begins[row[-2]] - begins[r + 1] <= 63}


def first_wrong(rows):
    return min(wrong_rows(rows), default=None)


def with_far(rows, choice):
    return [row[:-1] + (1,) if r in choice else row for r, row in enumerate(rows)]


def far_rows(rows):
    return {r for r, row in enumerate(rows) if row[0] in JUMPS and row[-1] == 1}


def long_in_every_good_layout(rows):
    """Tries each layout there is: the document's own words, slow but plain."""
    short = [r for r, row in enumerate(rows) if row[0] in JUMPS and row[-1] == 0]
    good = []
    for count in range(len(short) + 1):
        for choice in itertools.combinations(short, count):
            if first_wrong(with_far(rows, choice)) is None:
                good.append(far_rows(with_far(rows, choice)))
    return set.intersection(*good)


def ahead(row, between):
    """The jump at 0 leads to a stop behind so many units."""
    return [row] + [TELL] * between + [STOP]


def behind(row, between):
    """The jump leads to row 0, with so many units between."""
    return [TELL] * between + [row, STOP]


class Case(unittest.TestCase):
    def good(self, rows):
        check_rows(rows)
        self.assertIsNone(check_layout(rows))
        self.assertIsNone(first_wrong(rows))

    def refused(self, rows, at):
        check_rows(rows)
        with self.assertRaises(NoLayout) as caught:
            check_layout(rows)
        self.assertIs(type(caught.exception.at), int)
        self.assertEqual(caught.exception.at, at)

    def least(self, rows, longer):
        check_rows(rows)
        told = least_layout(rows)
        self.assertIs(type(told), list)
        self.assertEqual(told, with_far(rows, longer))
        self.good(told)
        return told


class Checked(Case):
    def test_ahead_up_to_63(self):
        for between in (0, 1, 62, 63):
            for row in jumps_to(between + 1, 0):
                self.good(ahead(row, between))
        for between in (64, 65, 200, 1000):
            for row in jumps_to(between + 1, 0):
                self.refused(ahead(row, between), 0)

    def test_behind_down_to_minus_64(self):
        for between in (0, 1, 62, 63):
            for row in jumps_to(0, 0):
                self.good(behind(row, between))
        for between in (64, 65, 200, 1000):
            for row in jumps_to(0, 0):
                self.refused(behind(row, between), between)

    def test_a_jump_to_itself(self):
        for row in jumps_to(0, 0) + jumps_to(0, 1):
            self.good([row, STOP])

    def test_far_ones_bear_any_distance(self):
        for between in (0, 63, 64, 3990):
            for row in jumps_to(between + 1, 1):
                self.good(ahead(row, between))
            for row in jumps_to(0, 1):
                self.good(behind(row, between))

    def test_tables_bear_any_distance(self):
        self.good([("table", 0, (3990,))] + [TELL] * 3989 + [STOP])
        self.good([TELL] * 3990 + [("table", 0, (0,)), STOP])

    def test_units_of_each_form_ahead(self):
        for form, line, size in FORMS:
            with self.subTest(line=line):
                # The form's own targets are row 3 and less, so it never hinders.
                rows = [("jump", 65 - size, 0), form] + [TELL] * (63 - size) + [STOP]
                self.good(rows)
                self.refused([("jump", 66 - size, 0), form] + [TELL] * (64 - size) + [STOP], 0)

    def test_units_of_each_form_behind(self):
        for form, line, size in FORMS:
            with self.subTest(line=line):
                self.good([form] + [TELL] * (63 - size) + [("jump", 0, 0)])
                self.refused([form] + [TELL] * (64 - size) + [("jump", 0, 0)], 65 - size)

    def test_the_first_row_that_does_not(self):
        rows = [("jump", 70, 0), ("call", 70, 0), ("zero", 0, 70, 0)] + [TELL] * 70 + [("jump", 2, 0), STOP]
        self.refused(rows, 0)
        rows[0] = ("jump", 70, 1)
        self.refused(rows, 1)
        rows[1] = ("call", 70, 1)
        self.refused(rows, 2)
        rows[2] = ("zero", 0, 70, 1)
        self.refused(rows, 73)
        rows[73] = ("jump", 2, 1)
        self.good(rows)

    def test_a_jump_made_long_may_spoil_another(self):
        rows = [("jump", 64, 0), ("jump", 3, 0)] + [TELL] * 62 + [STOP]
        self.good(rows)
        rows[1] = ("jump", 3, 1)
        self.refused(rows, 0)

    def test_a_jump_made_long_is_behind_its_own_target(self):
        self.good(behind(("jump", 0, 0), 63))
        self.good(behind(("jump", 0, 1), 63))

    def test_drawn_programs(self):
        draw = random.Random(8)
        refused = 0
        for k in range(300):
            rows = random_program(draw, draw.randrange(1, 60))
            at = first_wrong(rows)
            if at is None:
                self.good(rows)
            else:
                refused += 1
                self.refused(rows, at)
        self.assertTrue(50 < refused < 250, refused)


class Least(Case):
    def test_nothing_must_grow(self):
        self.least([STOP], ())
        self.least(ahead(("jump", 64, 0), 63), ())
        self.least(behind(("jump", 0, 0), 63), ())
        self.least([form for form, line, size in FORMS] + [STOP], ())

    def test_one_must_grow(self):
        for row in jumps_to(65, 0):
            self.least(ahead(row, 64), (0,))
        for row in jumps_to(0, 0):
            self.least(behind(row, 64), (64,))

    def test_far_ones_stay_far(self):
        rows = [("jump", 1, 1), ("zero", 3, 0, 1), ("below", 3, 2, 1), ("call", 4, 1), ("mark", 0, 1), STOP]
        self.least(rows, ())

    def test_a_far_one_makes_others_grow(self):
        rows = [("jump", 64, 0), ("jump", 3, 1)] + [TELL] * 62 + [STOP]
        self.least(rows, (0,))
        rows[1] = ("jump", 3, 0)
        self.least(rows, ())

    def test_a_jump_over_a_jump_that_must_grow(self):
        # The first bears 63 as long as the second is short.
        rows = [("jump", 64, 0), ("jump", 66, 0)] + [TELL] * 64 + [STOP]
        self.least(rows, (0, 1))
        self.least(rows[:1] + [("jump", 65, 0)] + rows[2:], ())

    def test_a_jump_back_over_a_jump_that_must_grow(self):
        rows = [STOP] + [TELL] * 61 + [("jump", 127, 0), ("jump", 0, 0)] + [TELL] * 63 + [STOP]
        self.least(rows, (62, 63))
        self.least(rows[:62] + [("jump", 126, 0)] + rows[63:], ())

    def test_a_jump_to_just_behind_or_just_ahead_of_one_that_grows(self):
        # Neither jump lies over the one that grows.
        self.least([("jump", 64, 0)] + [TELL] * 63 + [("jump", 129, 0)] + [TELL] * 64 + [STOP], (64,))
        self.least([("jump", 66, 0)] + [TELL] * 63 + [("jump", 1, 0), TELL, STOP], (0,))

    def test_jumps_that_grow_one_behind_the_other(self):
        for count in (2, 3, 10, 60):
            rows = chained_ahead(count, 64)
            jumps = range(0, 3 * count, 3)
            self.assertEqual([distance_of(rows, r) for r in jumps], [63] * (count - 1) + [64])
            self.least(rows, jumps)
            self.least(chained_ahead(count, 63), ())

    def test_jumps_back_that_grow_one_behind_the_other(self):
        for count in (2, 3, 10, 60):
            rows = chained_behind(count, 65)
            jumps = [r for r, row in enumerate(rows) if row[0] == "jump"]
            self.assertEqual([distance_of(rows, r) for r in jumps], [-65] + [-64] * (count - 1))
            self.least(rows, jumps)
            self.least(chained_behind(count, 64), ())

    def test_close_on_4000_rows_that_grow_one_behind_the_other(self):
        for rows in (chained_ahead(1320, 64), chained_behind(1320, 65)):
            check_rows(rows)
            told = least_layout(rows)
            self.assertIsNone(check_layout(told))
            self.assertEqual(told, with_far(rows, [r for r, row in enumerate(rows) if row[0] == "jump"]))

    def test_4000_jumps_that_all_grow(self):
        rows = [("jump", 3999, 0)] + [("jump", min(r + 64, 3999), 0) for r in range(1, 3999)] + [("jump", 0, 0)]
        told = least_layout(rows)
        self.good(told)
        self.assertEqual(far_rows(told), {0, 3999})
        rows[2000] = ("jump", 3999, 0)
        told = least_layout(rows)
        self.good(told)
        self.assertEqual(far_rows(told), set(range(2001)) | {3999})

    def test_each_layout_tried(self):
        draw = random.Random(9)
        induced = 0
        for k in range(200):
            rows = small_program(draw)
            expected = long_in_every_good_layout(rows)
            told = self.least(rows, expected)
            induced += not far_rows(told) <= far_rows(rows) | wrong_rows(rows)
        self.assertGreater(induced, 40)

    def test_drawn_programs(self):
        draw = random.Random(10)
        for k in range(60):
            rows = random_program(draw, draw.randrange(50, 250), long_tables=k % 2 == 0)
            told = least_layout(rows)
            self.good(told)
            self.assertEqual([row[:-1] for row in told if row[0] in JUMPS],
                             [row[:-1] for row in rows if row[0] in JUMPS])
            self.assertEqual([row for row in told if row[0] not in JUMPS], [row for row in rows if row[0] not in JUMPS])
            self.assertTrue(far_rows(rows) <= far_rows(told))
            self.assertEqual(least_layout(told), told)
            self.assertEqual(far_rows(told), grown_round_by_round(rows))


FILL = [("table", 0, (0,) * 16), ("table", 0, (0,) * 11)]


def chained_ahead(count, last):
    """Each jump lies over the next one alone: 31 units of two tables, that jump, and 31 more. The last one's distance
    is told."""
    rows = []
    for k in range(count):
        rows += [("jump", 3 * (k + 2) if k < count - 1 else 3 * count + last - 31, 0)] + FILL
    return rows + [TELL] * (last - 31) + [STOP]


def chained_behind(count, first):
    """Each jump lies over the one ahead of it alone, and itself. How far back the first one leads is told."""
    rows = [TELL] * (first - 32)
    for k in range(count):
        rows += FILL + [("jump", first - 32 + 3 * (k - 1) if k > 0 else 0, 0)]
    return rows + [STOP]


def small_program(draw):
    """A few jumps between other rows, most of them close to what they bear, so that one that grows moves others."""
    count = draw.randrange(64, 72)
    rows = [TELL] * count + [STOP]
    jumps = draw.sample(list(range(8)) + list(range(count - 8, count)), 7)
    for r in jumps:
        far = draw.choice((0, 0, 0, 0, 0, 0, 0, 1))
        close = [target for target in (r + 63, r + 64, r + 65, r - 62, r - 63, r - 64)
                 if 0 <= target <= count]
        rows[r] = draw.choice(jumps_to(draw.choice(close or [0, r, count]), far))
    return rows


def grown_round_by_round(rows):
    """All jumps that do not bear their distance grow, till each does."""
    while first_wrong(rows) is not None:
        rows = with_far(rows, wrong_rows(rows))
    return far_rows(rows)


class AskersOwn(Case):
    def test_rows_stay_as_they_were(self):
        for rows in (ahead(("jump", 64, 0), 63), ahead(("jump", 65, 0), 64), [STOP]):
            before = copy.deepcopy(rows)
            least_layout(rows)
            self.assertEqual(rows, before)
            try:
                check_layout(rows)
            except NoLayout:
                pass
            self.assertEqual(rows, before)

    def test_what_is_told_is_a_new_list(self):
        for rows in ([STOP], ahead(("jump", 65, 0), 64), ahead(("jump", 64, 1), 63)):
            told = least_layout(rows)
            kept = list(told)
            self.assertIsNot(told, rows)
            told[0] = STOP
            told.append(STOP)
            self.assertEqual(least_layout(rows), kept)

    def test_what_is_done_to_the_rows_later_changes_nothing_told(self):
        rows = ahead(("jump", 65, 0), 64)
        told = least_layout(rows)
        kept = list(told)
        rows[0] = STOP
        rows.append(STOP)
        self.assertEqual(told, kept)


if __name__ == "__main__":
    unittest.main()

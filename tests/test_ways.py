import copy
import unittest

from widenrows.rows import check_rows
from widenrows.ways import ways_of

STOP = ("stop",)
STRAIGHT_ON = (
    ("set", 0, 5), ("more", 0, -5), ("copy", 0, 1), ("add", 0, 1), ("less", 0, 1), ("load", 0, 1), ("keep", 0, 1),
    ("tell", 0), ("see", 0, 4), ("put", 0, 4), ("take", 0, 4),
)
NOWHERE = (STOP, ("back",), ("halt", 0), ("halt", 4))


def with_target(target):
    return (("zero", 1, target, 0), ("below", 1, target, 0), ("call", target, 0), ("mark", target, 0),
            ("zero", 7, target, 1), ("below", 7, target, 1), ("call", target, 1), ("mark", target, 1),
            ("table", 3, (target,)), ("table", 3, (target,) * 16))


class Case(unittest.TestCase):
    def ways(self, row, expected):
        # The row is number 3 of six.
        rows = [STOP, STOP, STOP, row, STOP, STOP]
        check_rows(rows)
        with self.subTest(row=row):
            told = ways_of(rows, 3)
            self.assertIs(type(told), list)
            self.assertEqual(told, expected)


class Ways(Case):
    def test_rows_that_go_nowhere(self):
        for row in NOWHERE:
            self.ways(row, [])

    def test_rows_that_only_go_on(self):
        for row in STRAIGHT_ON:
            self.ways(row, [4])

    def test_jumps_do_not_go_on(self):
        for target in range(6):
            self.ways(("jump", target, 0), [target])
            self.ways(("jump", target, 1), [target])

    def test_targets_ahead_and_behind_are_sorted(self):
        for row in with_target(0):
            self.ways(row, [0, 4])
        for row in with_target(5):
            self.ways(row, [4, 5])

    def test_rows_that_lead_to_themselves(self):
        for row in with_target(3):
            self.ways(row, [3, 4])

    def test_targets_that_are_the_next_row_too(self):
        for row in with_target(4):
            self.ways(row, [4])

    def test_tables(self):
        self.ways(("table", 0, (5, 1, 0)), [0, 1, 4, 5])
        self.ways(("table", 0, (5, 0, 5, 0, 5)), [0, 4, 5])
        self.ways(("table", 0, (4, 3, 4)), [3, 4])
        self.ways(("table", 0, (5, 4, 3, 2, 1, 0)), [0, 1, 2, 3, 4, 5])
        self.ways(("table", 0, (5,) * 15 + (2,)), [2, 4, 5])

    def test_a_part_that_is_no_target_leads_nowhere(self):
        self.ways(("zero", 0, 5, 1), [4, 5])
        self.ways(("jump", 5, 1), [5])
        self.ways(("call", 5, 0), [4, 5])
        self.ways(("table", 1, (5,)), [4, 5])

    def test_many_targets_in_the_order_of_numbers(self):
        rows = [("table", 0, (100, 20, 3, 1999, 8, 1000))] + [STOP] * 1999
        self.assertEqual(ways_of(rows, 0), [1, 3, 8, 20, 100, 1000, 1999])

    def test_the_first_and_the_last_row(self):
        self.assertEqual(ways_of([("jump", 0, 0)], 0), [0])
        self.assertEqual(ways_of([STOP], 0), [])
        rows = [("mark", 3999, 1)] + [("tell", 0)] * 3998 + [("jump", 0, 1)]
        self.assertEqual(ways_of(rows, 0), [1, 3999])
        self.assertEqual(ways_of(rows, 3998), [3999])
        self.assertEqual(ways_of(rows, 3999), [0])

    def test_each_row_of_one_program(self):
        rows = [("call", 4, 0), ("zero", 0, 3, 0), ("jump", 0, 0), STOP, ("table", 1, (6, 5)), ("back",), ("halt", 1)]
        told = [ways_of(rows, r) for r in range(len(rows))]
        self.assertEqual(told, [[1, 4], [2, 3], [0], [], [5, 6], [], []])


class AskersOwn(Case):
    def test_what_is_told_is_a_new_list(self):
        for row in NOWHERE + STRAIGHT_ON + with_target(0) + (("jump", 0, 0),):
            rows = [row, STOP]
            before = copy.deepcopy(rows)
            first = ways_of(rows, 0)
            kept = list(first)
            first.append(99)
            first.reverse()
            self.assertEqual(ways_of(rows, 0), kept)
            self.assertIsNot(ways_of(rows, 0), ways_of(rows, 0))
            self.assertEqual(rows, before)

    def test_what_is_done_to_the_rows_later_changes_nothing_told(self):
        rows = [("zero", 0, 2, 0), STOP, STOP]
        told = ways_of(rows, 0)
        rows[0] = ("jump", 0, 0)
        self.assertEqual(told, [1, 2])
        self.assertEqual(ways_of(rows, 0), [0])


if __name__ == "__main__":
    unittest.main()

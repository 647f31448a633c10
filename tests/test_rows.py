import copy
import unittest

from widenrows.errors import NoRows
from widenrows.rows import check_rows

STOP = ("stop",)

# Each word and the kinds of its parts, written out here once more so that a slip in the program's own table shows.
SHAPES = {
    "stop": "", "back": "", "halt": "N", "set": "BV", "more": "BV", "copy": "BB", "add": "BB", "less": "BB",
    "load": "BB", "keep": "BB", "tell": "B", "see": "BN", "put": "BA", "take": "BA", "jump": "TF", "zero": "BTF",
    "below": "BTF", "call": "TF", "mark": "TF", "table": "BX",
}
DO_NOT_GO_ON = ("stop", "back", "halt", "jump")

# Rows are tried at number 2 of four, so the targets of a program go from 0 to 3.
EDGES = {"N": (0, 10**6), "B": (0, 7), "V": (-10**9, 10**9), "A": (0, 10**6), "T": (0, 3), "F": (0, 1)}
PLAIN = {"N": 5, "B": 2, "V": -3, "A": 9, "T": 1, "F": 0, "X": (1, 0)}
NO_NUMBERS = (True, False, "1", "", None, 1.0, 0.0, 1j, b"1", (1,), [1], {}, {1: 1}, {1}, int)


def plain_row(word):
    return (word,) + tuple(PLAIN[kind] for kind in SHAPES[word])


def with_part(word, place, part):
    row = list(plain_row(word))
    row[1 + place] = part
    return tuple(row)


def around(row):
    return [STOP, ("jump", 0, 0), row, STOP]


def number_places():
    return [(word, place, kind) for word, kinds in SHAPES.items() for place, kind in enumerate(kinds) if kind != "X"]


class Case(unittest.TestCase):
    def let_by(self, rows):
        self.assertIsNone(check_rows(rows), rows[:5])

    def refused(self, rows, at):
        with self.assertRaises(NoRows) as caught:
            check_rows(rows)
        told = caught.exception.at
        self.assertIs(type(told), int)
        self.assertEqual(told, at)

    def refused_row(self, row):
        with self.subTest(row=row):
            self.refused(around(row), 2)


class LetBy(Case):
    def test_there_are_twenty_words(self):
        self.assertEqual(len(SHAPES), 20)

    def test_each_word(self):
        for word in SHAPES:
            self.let_by(around(plain_row(word)))

    def test_each_number_at_its_least_and_greatest(self):
        for word, place, kind in number_places():
            for part in EDGES[kind]:
                with self.subTest(word=word, place=place, part=part):
                    self.let_by(around(with_part(word, place, part)))

    def test_each_box(self):
        for box in range(8):
            self.let_by([("copy", box, 7 - box), STOP])

    def test_tables_of_one_and_of_sixteen_targets(self):
        self.let_by(around(("table", 0, (3,))))
        self.let_by(around(("table", 0, (0,))))
        self.let_by(around(("table", 7, tuple(k % 4 for k in range(16)))))
        self.let_by(around(("table", 7, (2,) * 16)))

    def test_programs_of_one_row(self):
        for row in (STOP, ("back",), ("halt", 0), ("halt", 10**6), ("jump", 0, 0), ("jump", 0, 1)):
            self.let_by([row])

    def test_programs_of_4000_rows(self):
        self.let_by([STOP] * 4000)
        self.let_by([("set", 0, 0)] * 3999 + [("jump", 3999, 1)])
        self.let_by([("table", 0, (0, 3999) * 8)] + [("tell", 1)] * 3998 + [("back",)])
        self.let_by([STOP] * 3999 + [("jump", 0, 0)])

    def test_each_last_row_that_does_not_go_on(self):
        for word in DO_NOT_GO_ON:
            self.let_by([("tell", 0), ("tell", 1), plain_row(word)])

    def test_a_short_jump_however_far(self):
        self.let_by([("jump", 999, 0)] + [("set", 0, 1)] * 998 + [STOP])


class NoList(Case):
    def test_what_is_no_list(self):
        for thing in (None, 0, 1, True, "stop", "", (STOP,), (), {}, {0: STOP}, {STOP}, b"", STOP):
            with self.subTest(thing=thing):
                self.refused(thing, 0)

    def test_an_empty_list(self):
        self.refused([], 0)


class NoRow(Case):
    def test_no_tuple(self):
        for row in (None, 0, True, "stop", ["stop"], {"stop": 0}, {"stop"}, ["set", 0, 0], [], b"stop"):
            self.refused_row(row)

    def test_unknown_words(self):
        for word in ("", "Stop", "STOP", "stop ", " stop", "far", "halt\n", "end", "ring", None, 0, 1, True, b"stop"):
            self.refused_row((word,))
            self.refused_row((word, 1))
            self.refused_row((word, 1, 0))
            self.refused_row((word, 1, 1, 0))

    def test_words_that_cannot_be_looked_up(self):
        for word in ([], ["stop"], {}, {"stop": 1}, {"stop"}, (), ("stop",), ([],)):
            self.refused_row((word,))
            self.refused_row((word, 0, 0))

    def test_a_part_too_few(self):
        for word in SHAPES:
            self.refused_row(plain_row(word)[:-1])

    def test_a_part_too_many(self):
        for word in SHAPES:
            for part in (0, 1, None, "", "far", (0,)):
                self.refused_row(plain_row(word) + (part,))

    def test_each_number_one_beyond_its_bounds(self):
        for word, place, kind in number_places():
            self.refused_row(with_part(word, place, EDGES[kind][0] - 1))
            self.refused_row(with_part(word, place, EDGES[kind][1] + 1))

    def test_each_number_far_beyond_its_bounds(self):
        for word, place, kind in number_places():
            for part in (-10**40, 10**40, -10**9 - 1, 10**9 + 1):
                self.refused_row(with_part(word, place, part))

    def test_what_is_no_whole_number_in_its_place(self):
        for word, place, kind in number_places():
            for part in NO_NUMBERS:
                self.refused_row(with_part(word, place, part))

    def test_targets_that_are_no_row_of_the_list(self):
        for word, place, kind in number_places():
            if kind == "T":
                for target in (-1, 4, 5, 3999, 4000, 10**9, 10**9 + 1):
                    self.refused_row(with_part(word, place, target))


class NoTable(Case):
    def test_none_and_seventeen_targets(self):
        self.refused_row(("table", 0, ()))
        self.refused_row(("table", 0, (0,) * 17))
        self.refused_row(("table", 0, (0,) * 100))

    def test_what_is_no_tuple_of_targets(self):
        for targets in (0, 1, None, True, "0", "", [0], [0, 1], [], {0: 1}, {0}, b"\x00", ((0, 1),), ([0],)):
            self.refused_row(("table", 0, targets))

    def test_targets_side_by_side(self):
        self.refused_row(("table", 0, 1, 2))

    def test_one_wrong_target_at_each_place(self):
        for wrong in (-1, 4, 10**9, 10**9 + 1) + NO_NUMBERS:
            for place in (0, 7, 15):
                targets = [1] * 16
                targets[place] = wrong
                self.refused_row(("table", 0, tuple(targets)))

    def test_wrong_box_of_a_table(self):
        for box in (-1, 8, True, None):
            self.refused_row(("table", box, (0,)))


class TooManyRows(Case):
    def test_alone(self):
        self.refused([STOP] * 4001, 4000)
        self.refused([STOP] * 9000, 4000)

    def test_with_a_wrong_row_among_the_first_4000(self):
        for at in (0, 1, 2000, 3999):
            rows = [STOP] * 4001
            rows[at] = ("halt", -1)
            self.refused(rows, at)

    def test_with_a_wrong_row_behind_them(self):
        for at in (4000, 4001, 4499):
            rows = [STOP] * 4500
            rows[at] = None
            self.refused(rows, 4000)

    def test_with_wrong_rows_on_both_sides(self):
        rows = [STOP] * 4500
        rows[4000] = None
        rows[3999] = ("tell", 8)
        self.refused(rows, 3999)

    def test_with_a_last_row_that_goes_on(self):
        self.refused([STOP] * 4000 + [("tell", 0)], 4000)
        self.refused([STOP] * 4400 + [("tell", 0)], 4000)

    def test_a_row_behind_the_4000th_is_a_row_of_the_list(self):
        self.refused([("jump", 4000, 1)] + [STOP] * 4000, 4000)
        self.refused([("table", 0, (4000, 4499))] + [STOP] * 4499, 4000)
        self.refused([STOP, ("jump", 4001, 1)] + [STOP] * 3999, 1)

    def test_a_target_behind_4000_rows(self):
        self.refused([STOP, ("jump", 4000, 1)] + [STOP] * 3998, 1)


class LastRow(Case):
    def test_each_last_row_that_goes_on(self):
        for word in SHAPES:
            if word not in DO_NOT_GO_ON:
                with self.subTest(word=word):
                    self.refused([STOP, STOP, plain_row(word)], 2)

    def test_programs_of_one_row(self):
        self.refused([("tell", 0)], 0)
        self.refused([("call", 0, 0)], 0)

    def test_the_4000th_row(self):
        self.refused([STOP] * 3999 + [("mark", 0, 1)], 3999)

    def test_rows_that_go_on_only_to_the_rows_that_are_there(self):
        self.let_by([("tell", 0), STOP])


class SeveralAtOnce(Case):
    def test_the_first_wrong_row(self):
        self.refused([STOP, None, ("halt", -1), STOP], 1)
        self.refused([STOP, ("jump", 4, 0), None, STOP], 1)
        self.refused([None, ("jump", 4, 0), STOP], 0)

    def test_a_wrong_row_ahead_of_a_last_row_that_goes_on(self):
        self.refused([STOP, ("set", 8, 0), ("tell", 0)], 1)
        self.refused([("jump", 3, 0), STOP, ("tell", 0)], 0)

    def test_a_last_row_that_is_wrong_and_goes_on(self):
        self.refused([STOP, STOP, ("tell", 8)], 2)

    def test_all_parts_of_one_row_are_wrong(self):
        self.refused([STOP, ("zero", 8, 9, 2), STOP], 1)


class NothingIsChanged(Case):
    def test_what_is_let_by(self):
        rows = [plain_row(word) for word in SHAPES] + [STOP]
        before = copy.deepcopy(rows)
        check_rows(rows)
        self.assertEqual(rows, before)

    def test_what_is_refused(self):
        for rows in ([], [["stop"]], [STOP, ("table", 0, [0]), STOP], [("tell", 0)], [STOP] * 4001, {0: STOP}):
            before = copy.deepcopy(rows)
            with self.assertRaises(NoRows):
                check_rows(rows)
            self.assertEqual(rows, before)

    def test_what_was_refused_is_looked_at_anew(self):
        rows = [("tell", 0)]
        self.refused(rows, 0)
        rows.append(STOP)
        self.let_by(rows)
        rows.append(None)
        self.refused(rows, 2)


if __name__ == "__main__":
    unittest.main()

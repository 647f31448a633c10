import copy
import random
import unittest

from samples import FORMS, NO_NUMBERS, STOP, random_program
from widenrows.errors import NoLayout, NoUnits
from widenrows.layout import check_layout, least_layout
from widenrows.rows import check_rows
from widenrows.units import rows_of_units, units_of

# The units of each row of FORMS where it stands ahead of three stops, reckoned by hand.
UNITS = (
    [0], [1024], [2048, 5], [3200, -7], [4352, 8], [5508], [6661], [7814], [8967], [10113], [10496], [11648, 12],
    [12800, 13], [13952, 14], [14402], [16194], [17346], [17474], [18498], [20480, 2], [22272, 2], [23424, 2],
    [23552, 2], [24576, 2], [19584, 1, 2], [19712, 3, 2, -5, 1], [19840, 16] + [2, 1, 0, -18] * 4,
)

# Each code's word and parts: B a box, C a second one, N a number from 0 to 10**6, V a value, D a short distance, F one in
# a unit of its own, X how many targets and the distance of each.
CODES = (
    ("stop", ""), ("back", ""), ("halt", "N"), ("set", "BV"), ("more", "BV"), ("copy", "BC"), ("add", "BC"),
    ("less", "BC"), ("load", "BC"), ("keep", "BC"), ("tell", "B"), ("see", "BN"), ("put", "BN"), ("take", "BN"),
    ("jump", "D"), ("zero", "BD"), ("below", "BD"), ("call", "D"), ("mark", "D"), ("table", "BX"),
    ("jump", "F"), ("zero", "BF"), ("below", "BF"), ("call", "F"), ("mark", "F"),
)
BOUNDS = {"N": (0, 10**6), "V": (-10**9, 10**9)}


def whole(thing):
    return type(thing) is int


class Wrong(Exception):
    pass


def plain_reading(units):
    """Reads units by the document, a unit at a time, with rows as [begin, end, row without targets, distances]."""
    found = []
    at = 0

    def unit(fits):
        nonlocal at
        if at >= len(units) or not whole(units[at]) or not fits(units[at]):
            raise Wrong(at)
        at += 1
        return units[at - 1]

    def fits_first(u):
        if not 0 <= u < 25 * 1024:
            return False
        parts = CODES[u // 1024][1]
        lows = range(8) if "C" in parts else range(128) if "D" in parts else range(1)
        return u % 128 in lows and ("B" in parts or u // 128 % 8 == 0)

    while at < len(units) or not found:
        begin = at
        u = unit(fits_first)
        word, parts = CODES[u // 1024]
        row = [word]
        distances = []
        for part in parts:
            if part == "B":
                row.append(u // 128 % 8)
            elif part == "C":
                row.append(u % 128)
            elif part == "D":
                distances.append(u % 128 - 64)
            elif part == "F":
                distances.append(unit(whole))
            elif part == "X":
                count = unit(lambda n: 1 <= n <= 16)
                distances.extend(unit(whole) for k in range(count))
            else:
                row.append(unit(lambda n: BOUNDS[part][0] <= n <= BOUNDS[part][1]))
        found.append((begin, at, row, parts, distances))
    begins = [begin for begin, end, row, parts, distances in found]
    rows = []
    for begin, end, row, parts, distances in found:
        if any(end + distance not in begins for distance in distances):
            raise Wrong(begin)
        if end == len(units) and row[0] not in ("stop", "back", "halt", "jump"):
            raise Wrong(begin)
        targets = [begins.index(end + distance) for distance in distances]
        if "X" in parts:
            row.append(tuple(targets))
        elif targets:
            row += [targets[0], 1 if "F" in parts else 0]
        rows.append(tuple(row))
    return rows


class Case(unittest.TestCase):
    def units(self, rows, units):
        check_rows(rows)
        told = units_of(rows)
        self.assertIs(type(told), list)
        self.assertEqual(told, units)
        self.assertTrue(all(whole(unit) for unit in told))
        self.read(units, rows)

    def read(self, units, rows):
        told = rows_of_units(units)
        self.assertIs(type(told), list)
        self.assertEqual(told, rows)
        self.assertTrue(all(type(row) is tuple for row in told))

    def refused(self, units, at):
        with self.assertRaises(NoUnits) as caught:
            rows_of_units(units)
        self.assertIs(type(caught.exception.at), int)
        self.assertEqual(caught.exception.at, at)

    def as_plainly_read(self, units):
        try:
            expected = plain_reading(units)
        except Wrong as wrong:
            self.refused(units, wrong.args[0])
            return 1
        self.read(units, expected)
        return 0


class Told(Case):
    def test_each_form(self):
        self.assertEqual(len(FORMS), len(UNITS))
        for (row, line, size), units in zip(FORMS, UNITS):
            with self.subTest(line=line):
                self.assertEqual(len(units), size)
                self.units([row, STOP, STOP, STOP], units + [0, 0, 0])

    def test_each_form_behind_other_rows(self):
        # Row 3 is a stop ahead of the form here, so distances are those back to it.
        for (row, line, size), units in zip(FORMS, UNITS):
            if row[0] != "table":
                rows = [STOP, ("halt", 1), STOP, STOP, ("tell", 0), row, STOP]
                shift = -2 - size - 2
                code = units[0] // 1024
                if "D" in CODES[code][1]:
                    expected = [units[0] + shift]
                elif "F" in CODES[code][1]:
                    expected = [units[0], units[1] + shift]
                else:
                    expected = units
                self.units(rows, [0, 2048, 1, 0, 0, 10240] + expected + [0])

    def test_each_box(self):
        for box in range(8):
            self.units([("tell", box), STOP], [10240 + 128 * box, 0])
            self.units([("copy", box, 7 - box), STOP], [5120 + 128 * box + 7 - box, 0])
            self.units([("set", box, 3), STOP], [3072 + 128 * box, 3, 0])
            self.units([("zero", box, 1, 0), STOP], [15360 + 128 * box + 64, 0])
            self.units([("below", box, 1, 1), STOP], [22528 + 128 * box, 0, 0])
            self.units([("table", box, (1,)), STOP], [19456 + 128 * box, 1, 0, 0])

    def test_each_pair_of_boxes(self):
        for word, code in (("copy", 5), ("add", 6), ("less", 7), ("load", 8), ("keep", 9)):
            for b in range(8):
                for c in range(8):
                    self.units([(word, b, c), STOP], [code * 1024 + b * 128 + c, 0])

    def test_each_short_distance(self):
        rows = [("tell", 0)] * 130
        for code, word in ((14, "jump"), (17, "call"), (18, "mark")):
            for distance in range(-64, 64):
                program = rows[:64] + [(word, 65 + distance, 0)] + rows[:63] + [STOP]
                self.units(program, [10240] * 64 + [code * 1024 + 64 + distance] + [10240] * 63 + [0])

    def test_numbers_at_their_bounds(self):
        for number in (-10**9, -1, 0, 1, 10**9):
            self.units([("set", 0, number), STOP], [3072, number, 0])
            self.units([("more", 7, number), STOP], [4992, number, 0])
        for number in (0, 1, 10**6):
            self.units([("see", 0, number), STOP], [11264, number, 0])
            self.units([("put", 0, number), STOP], [12288, number, 0])
            self.units([("take", 0, number), STOP], [13312, number, 0])
            self.units([("halt", number)], [2048, number])

    def test_far_ones_over_any_distance(self):
        filling = [("set", 1, 2)] * 1000
        self.units([("jump", 1001, 1)] + filling + [STOP], [20480, 2000] + [3200, 2] * 1000 + [0])
        self.units(filling + [("jump", 0, 1)], [3200, 2] * 1000 + [20480, -2002])
        self.units([("jump", 0, 1)], [20480, -2])
        self.units([("jump", 0, 0)], [14336 + 63])
        self.units([("table", 0, (0, 1)), STOP], [19456, 2, -4, 0, 0])

    def test_a_far_one_within_changes_the_distances(self):
        self.units([("jump", 2, 0), ("jump", 0, 1), STOP], [14336 + 66, 20480, -3, 0])
        self.units([("jump", 2, 0), ("jump", 0, 0), STOP], [14336 + 65, 14336 + 62, 0])

    def test_no_good_layout_is_refused(self):
        for rows, at in (
            ([("jump", 65, 0)] + [("tell", 0)] * 64 + [STOP], 0),
            ([("tell", 0)] * 64 + [("jump", 0, 0)], 64),
            ([("tell", 1), ("zero", 0, 65, 0), ("jump", 67, 0)] + [("tell", 0)] * 64 + [STOP], 2),
        ):
            with self.assertRaises(NoLayout) as caught:
                units_of(rows)
            self.assertEqual(caught.exception.at, at)
            self.assertEqual(rows_of_units(units_of(least_layout(rows))), least_layout(rows))

    def test_drawn_programs(self):
        draw = random.Random(11)
        for k in range(200):
            rows = least_layout(random_program(draw, draw.randrange(1, 80)))
            check_layout(rows)
            units = units_of(rows)
            self.assertEqual(plain_reading(units), rows)
            self.read(units, rows)

    def test_4000_rows(self):
        rows = least_layout(random_program(random.Random(12), 4000))
        self.read(units_of(rows), rows)


class NoList(Case):
    def test_what_is_no_list(self):
        for thing in (None, 0, 1, True, "", "0", (), (0,), {}, {0: 0}, b"\x00", 0.0):
            with self.subTest(thing=thing):
                self.refused(thing, 0)

    def test_the_empty_list(self):
        self.refused([], 0)


class FirstUnits(Case):
    def around(self, unit):
        self.refused([unit], 0)
        self.refused([unit, 0], 0)
        self.refused([10240, 3072, 5, unit, 0, 0], 3)
        # A target with no row behind it stands ahead, but a unit that is none is told first.
        self.refused([20480, 999, unit, 0], 2)

    def test_no_whole_numbers(self):
        for thing in NO_NUMBERS:
            with self.subTest(thing=thing):
                self.around(thing)

    def test_codes_that_are_none(self):
        for unit in (-1, -64, -1024, -10**30, 25 * 1024, 25 * 1024 + 5, 26 * 1024, 100 * 1024, 10**30):
            self.around(unit)

    def test_a_where_there_is_no_box(self):
        for code in (0, 1, 2, 14, 17, 18, 20, 23, 24):
            for a in range(1, 8):
                self.around(code * 1024 + a * 128)
                self.around(code * 1024 + a * 128 + 64)

    def test_a_low_part_where_there_is_none(self):
        for code in (0, 1, 2, 3, 4, 10, 11, 12, 13, 19, 20, 21, 22, 23, 24):
            for low in (1, 2, 7, 8, 63, 64, 127):
                self.around(code * 1024 + low)

    def test_a_second_box_that_is_none(self):
        for code in (5, 6, 7, 8, 9):
            for low in (8, 9, 63, 64, 127):
                self.around(code * 1024 + 256 + low)

    def test_each_first_unit(self):
        for unit in range(-130, 26 * 1024):
            self.as_plainly_read([0] * 64 + [unit, 1, 0, 0] + [0] * 64)


class OtherUnits(Case):
    def test_no_whole_numbers(self):
        for thing in NO_NUMBERS:
            for units, size in zip(UNITS, [size for row, line, size in FORMS]):
                for k in range(1, size):
                    spoilt = list(units)
                    spoilt[k] = thing
                    self.refused(spoilt + [0, 0, 0], k)
                    self.refused([0] + spoilt + [None], k + 1)

    def test_numbers_beyond_their_bounds(self):
        for code, least, greatest in ((2, 0, 10**6), (3, -10**9, 10**9), (4, -10**9, 10**9), (11, 0, 10**6),
                                      (12, 0, 10**6), (13, 0, 10**6)):
            for number in (least, greatest):
                self.assertEqual(rows_of_units([code * 1024, number, 0])[0][-1], number)
            for number in (least - 1, greatest + 1, -10**40, 10**40):
                self.refused([code * 1024, number, 0], 1)
                self.refused([0, 10240, code * 1024, number, 0], 3)

    def test_how_many_targets(self):
        for count in (-10**20, -1, 0, 17, 18, 10**20):
            self.refused([19456, count] + [0] * 30, 1)
        for count in (1, 2, 15, 16):
            self.read([19456, count] + [0] * count + [0], [("table", 0, (1,) * count), STOP])

    def test_distances_of_any_size_are_units(self):
        for distance in (-10**40, -1, 10**40, 7):
            # The last unit is none: it is told ahead of the targets with no row.
            for unit in (20480, 21504, 22528, 23552, 24576):
                self.refused([unit, distance, 0, None], 3)
                self.refused([unit, distance, 0], 0)
            self.refused([19456, 2, 0, distance, 0, None], 5)
            self.refused([19456, 2, 0, distance, 0], 0)


class Lacking(Case):
    def test_cut_off_within_a_row(self):
        for units in UNITS:
            for k in range(1, len(units)):
                self.refused(units[:k], k)
                self.refused([0, 10240] + units[:k], k + 2)

    def test_a_wrong_unit_ahead_of_one_that_lacks(self):
        self.refused([19456, 16, 0, None], 3)
        self.refused([19456, 17], 1)
        self.refused([3072], 1)
        self.refused([3072, 10**9 + 1], 1)


class Ways(Case):
    def test_into_the_midst_of_a_row(self):
        # Row 1 begins at 1 and has two units.
        for first, at in (([14336 + 65], 0), ([14336 + 66], None)):
            units = first + [3072, 0, 0]
            if at is None:
                self.read(units, [("jump", 2, 0), ("set", 0, 0), STOP])
            else:
                self.refused(units, at)
        self.refused([0, 3072, 0, 14336 + 64 - 2], 3)
        self.read([0, 3072, 0, 14336 + 64 - 3], [STOP, ("set", 0, 0), ("jump", 1, 0)])
        self.refused([20480, -1], 0)
        self.refused([19456, 2, 0, -1, 0], 0)

    def test_a_unit_that_would_be_a_row_in_the_midst_of_another(self):
        self.refused([14336 + 65, 3072, 0, 0], 0)

    def test_ahead_of_the_first_and_behind_the_last_row(self):
        for word, code in (("jump", 14), ("zero", 15), ("below", 16), ("call", 17), ("mark", 18)):
            self.refused([code * 1024 + 64 - 2, 0], 0)
            self.refused([code * 1024 + 64 + 1, 0], 0)
            self.refused([0, 0, code * 1024 + 64 + 63, 0], 2)
            self.refused([(code + 6) * 1024, -3, 0], 0)
            self.refused([(code + 6) * 1024, 1, 0], 0)
            self.assertEqual(rows_of_units([code * 1024 + 64 + 0, 0])[0][-2:], (1, 0), word)
            self.assertEqual(rows_of_units([(code + 6) * 1024, -2, 0])[0][-2:], (0, 1), word)

    def test_one_target_of_a_table(self):
        for place in (0, 7, 15):
            distances = [0] * 16
            distances[place] = 1
            self.refused([0, 19456, 16] + distances + [0], 1)

    def test_the_first_of_several(self):
        self.refused([0, 20480, 50, 20480, 51, 10240], 1)
        self.refused([0, 20480, 0, 20480, 51, 10240], 3)
        self.refused([0, 20480, 0, 20480, 0, 10240], 5)

    def test_a_last_row_that_goes_on(self):
        for (row, line, size), units in zip(FORMS, UNITS):
            alone = [0, 1024] + units
            if row[0] in ("stop", "back", "halt"):
                self.assertEqual(rows_of_units(alone)[2], row)
            elif row[0] not in ("jump", "zero", "below", "call", "mark", "table"):
                self.refused(alone, 2)
        self.read([0, 14336 + 62], [STOP, ("jump", 0, 0)])
        self.read([0, 20480, -3], [STOP, ("jump", 0, 1)])
        for code in (15, 16, 17, 18):
            self.refused([0, code * 1024 + 62], 1)
            self.refused([0, (code + 6) * 1024, -3], 1)
        self.refused([0, 19456, 1, -4], 1)
        self.refused([10240], 0)

    def test_more_rows_than_a_program_has(self):
        self.read([0] * 4001, [STOP] * 4001)
        self.refused([0] * 4001 + [10240], 4001)


class Spoilt(Case):
    def programs(self):
        draw = random.Random(13)
        yield [row for row, line, size in FORMS] + [STOP]
        for k in range(12):
            yield random_program(draw, draw.randrange(2, 25))

    def test_each_unit_left_out(self):
        for rows in self.programs():
            units = units_of(least_layout(rows))
            for at in range(len(units)):
                self.as_plainly_read(units[:at] + units[at + 1:])

    def test_each_unit_put_in(self):
        for rows in self.programs():
            units = units_of(least_layout(rows))
            for at in range(len(units) + 1):
                for unit in (0, -1, 1, 3072, 19456, 20480, True, None):
                    self.as_plainly_read(units[:at] + [unit] + units[at:])

    def test_each_unit_cut_off(self):
        for rows in self.programs():
            units = units_of(least_layout(rows))
            for at in range(len(units)):
                self.as_plainly_read(units[:at])
                self.as_plainly_read(units[at:])

    def test_each_unit_spoilt(self):
        refused = 0
        for rows in self.programs():
            units = units_of(least_layout(rows))
            for at in range(len(units)):
                for unit in (units[at] + 1, units[at] - 1, units[at] + 128, units[at] + 1024, -units[at] - 1, 10**7,
                             10**10, False, "0", None):
                    refused += self.as_plainly_read(units[:at] + [unit] + units[at + 1:])
        self.assertGreater(refused, 1000)

    def test_drawn_units(self):
        draw = random.Random(14)
        read = 0
        for k in range(4000):
            units = [draw.choice((0, 1024, 2048, 10240, 5120, 3072, 14336 + 64, 14336 + 63, 14336 + 65, 20480, 1, 2, 0,
                                  -2, 19456)) for j in range(draw.randrange(1, 9))] + [0]
            read += 1 - self.as_plainly_read(units)
        self.assertGreater(read, 200)


class AskersOwn(Case):
    def test_what_is_handed_in_stays(self):
        rows = [row for row, line, size in FORMS] + [STOP]
        kept = copy.deepcopy(rows)
        units = units_of(rows)
        self.assertEqual(rows, kept)
        for given in (units, [0, None], [3072], [20480, 9, 0]):
            before = list(given)
            try:
                rows_of_units(given)
            except NoUnits:
                pass
            self.assertEqual(given, before)

    def test_what_is_told_is_new(self):
        rows = [("table", 0, (1, 2)), ("jump", 0, 1), STOP]
        units = units_of(rows)
        kept = list(units)
        units.clear()
        self.assertEqual(units_of(rows), kept)
        read = rows_of_units(kept)
        read.append(STOP)
        read[0] = STOP
        self.assertEqual(rows_of_units(kept), rows)

    def test_what_is_done_behind_the_call_changes_nothing(self):
        rows = [("jump", 1, 1), STOP]
        units = units_of(rows)
        rows[0] = STOP
        self.assertEqual(units, [20480, 0, 0])
        read = rows_of_units(units)
        units[0] = None
        self.assertEqual(read, [("jump", 1, 1), STOP])


if __name__ == "__main__":
    unittest.main()

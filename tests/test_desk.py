import random
import unittest

from samples import NO_NUMBERS, STOP, lively_program, plain_reading, random_beginning, random_program, random_wishes
from widenrows.desk import Desk
from widenrows.errors import NoLine, NoRows, NoText, NoWish, RowError
from widenrows.free import free_boxes
from widenrows.layout import least_layout
from widenrows.texts import shown_rows
from widenrows.units import units_of

# Box 0 counts down; row 1 leads to the stop, row 3 back to row 1.
TEXT = "set 0 3\nzero 0 4\nmore 0 -1\njump 1\nstop"
# All lines that a desk knows, each right for TEXT.
LINES = (
    "rows", "layout", "units", "free", "wish before 1 look 7 0", "wish after 1 count 7", "wish way 3 1 guard 7 0",
    "drop 0", "wishes", "box 0 5", "cell 4 5", "bells", "bells 1 2", "plain 3", "wide 3",
)


def shown(reading):
    """The answer for a reading, by the words of the document."""
    ending = reading["ending"] or ()
    parts = (
        [f"{n}={number}" for n, number in reading["seen"]],
        [f"{n}={reading['counts'][n]}" for n in sorted(reading["counts"])],
        [str(r) for r in reading["rows"]],
        [str(word) for word in ending],
    )
    return " | ".join(" ".join(words) or "-" for words in parts)


def state_of(desk):
    """All that can be asked without changing anything."""
    return tuple(desk.say(line) for line in ("rows", "layout", "units", "free", "wishes", "plain 60", "wide 60"))


class Case(unittest.TestCase):
    def setUp(self):
        self.desk = Desk(TEXT)

    def says(self, line, answer, desk=None):
        with self.subTest(line=line):
            self.assertEqual((desk or self.desk).say(line), answer)

    def refused(self, line, error=NoLine, at=None, desk=None):
        desk = desk or self.desk
        before = state_of(desk)
        with self.subTest(line=line):
            with self.assertRaises(RowError) as caught:
                desk.say(line)
            self.assertIs(type(caught.exception), error)
            if at is not None:
                self.assertEqual(caught.exception.at, at)
            self.assertEqual(state_of(desk), before)


class Made(Case):
    def test_refused_as_a_text_is(self):
        for text, at in (("", 0), ("x", 0), ("stop\n", 1), ("stop\nx", 1), (" stop", 0), ("stop ", 0), ("jump 5\nx", 1),
                         ("STOP", 0), ("set 0 01\nstop", 0)):
            with self.assertRaises(NoText) as caught:
                Desk(text)
            self.assertEqual(caught.exception.at, at)
        for thing in NO_NUMBERS + ([STOP],):
            if type(thing) is not str:
                with self.assertRaises(NoText) as caught:
                    Desk(thing)
                self.assertEqual(caught.exception.at, 0)

    def test_refused_as_rows_are(self):
        for text, at in (("tell 0", 0), ("stop\njump 2", 1), ("jump 1", 0), ("stop\nstop\nzero 0 0", 2),
                         ("stop\n" * 4000 + "stop", 4000)):
            with self.assertRaises(NoRows) as caught:
                Desk(text)
            self.assertEqual(caught.exception.at, at)

    def test_what_it_keeps_at_first(self):
        self.says("rows", TEXT)
        self.says("wishes", "none")
        desk = Desk("load 1 0\nsee 1 5\nsee 7 6\nmark 0\nstop")
        self.says("plain 100", "5=0 6=0 | - | 0 1 2 3 4 | stop", desk)
        self.says("wide 100", "5=0 6=0 | - | 0 1 2 3 4 | stop", desk)


class Program(Case):
    def test_rows_layout_units_free(self):
        self.says("rows", TEXT)
        self.says("layout", TEXT)
        self.says("units", "3072 3 15427 4096 -1 14396 0")
        self.says("free", "0 - - - -")

    def test_one_row(self):
        desk = Desk("stop")
        for line, answer in (("rows", "stop"), ("layout", "stop"), ("units", "0"), ("free", "-")):
            self.says(line, answer, desk)
        self.says("free", "01234567", Desk("jump 0"))

    def test_a_layout_with_long_jumps(self):
        text = "zero 0 65\n" + "tell 0\n" * 64 + "stop"
        desk = Desk(text)
        self.says("rows", text, desk)
        self.says("layout", text.replace("zero", "zero far"), desk)
        self.says("units", " ".join(["21504 64"] + ["10240"] * 64 + ["0"]), desk)
        self.says("free", " ".join(["-"] * 66), desk)

    def test_drawn(self):
        draw = random.Random(91)
        for k in range(40):
            rows = random_program(draw, draw.randrange(1, 120))
            desk = Desk(shown_rows(rows))
            laid = least_layout(rows)
            self.says("rows", shown_rows(rows), desk)
            self.says("layout", shown_rows(laid), desk)
            self.says("units", " ".join(str(unit) for unit in units_of(laid)), desk)
            self.says("free", " ".join("".join(map(str, boxes)) or "-" for boxes in free_boxes(rows)), desk)


class Wishes(Case):
    def test_each_place_and_what(self):
        shown_ones = []
        for place in ("before 0", "before 4", "after 1", "after 3", "way 1 2", "way 3 1"):
            for what in ("look 7 0", "count 3", "guard 0 7"):
                desk = Desk(TEXT)
                self.says(f"wish {place} {what}", "ok", desk)
                self.says("wishes", f"{place} {what}", desk)
                shown_ones.append(f"{place} {what}")
        for one in shown_ones[:12]:
            self.says(f"wish {one}", "ok")
        self.says("wishes", "; ".join(shown_ones[:12]))

    def test_numbers_at_their_bounds(self):
        for what in ("look 1000000 7", "look 0 0", "count 1000000", "count 0", "guard 1000000 7"):
            self.says(f"wish before 0 {what}", "ok")
        self.assertEqual(self.desk.say("wishes").count(";"), 4)

    def test_refused_as_check_wishes_does(self):
        wrong = ("before 5 count 1", "after 4 count 1", "way 1 3 count 1", "way 4 0 count 1", "way 9 1 count 1",
                 "before 0 count 1000001", "before 0 look 1000001 0", "before 0 look 1 8", "before 0 guard 1 8",
                 "before " + "9" * 40 + " count 1", "before 0 count " + "9" * 40, "way 1 " + "9" * 40 + " count 1")
        for count in range(13):
            for one in wrong:
                self.refused(f"wish {one}", NoWish, count)
            if count < 12:
                self.says("wish before 0 count 1", "ok")

    def test_the_thirteenth(self):
        for count in range(12):
            self.says("wish before 0 count 1", "ok")
        self.refused("wish before 0 count 1", NoWish, 12)
        self.says("drop 5", "ok")
        self.says("wish before 1 count 2", "ok")
        self.refused("wish before 0 count 1", NoWish, 12)

    def test_drop(self):
        for n in range(5):
            self.says(f"wish before 0 count {n}", "ok")
        for k, left in ((0, "1234"), (3, "123"), (1, "13"), (1, "1"), (0, "")):
            self.says(f"drop {k}", "ok")
            self.says("wishes", "; ".join(f"before 0 count {n}" for n in left) or "none")

    def test_drop_at_and_beyond_the_end(self):
        self.refused("drop 0", NoWish, 0)
        self.refused("drop 7", NoWish, 7)
        self.says("wish before 0 count 1", "ok")
        self.says("wish before 0 count 2", "ok")
        for k in (2, 3, 12, 13, int("9" * 40)):
            self.refused(f"drop {k}", NoWish, k)
        for k in ("-1", "-0", "00", "", "x", "9" * 41, "0 0"):
            self.refused(f"drop {k}")
        self.refused("drop")
        self.says("drop 1", "ok")
        self.says("wishes", "before 0 count 1")

    def test_the_order_counts(self):
        self.says("wish before 0 look 1 0", "ok")
        self.says("wish before 0 look 2 0", "ok")
        self.says("plain 1", "1=0 2=0 | - | 0 | -")
        self.says("drop 0", "ok")
        self.says("wish before 0 look 1 0", "ok")
        self.says("plain 1", "2=0 1=0 | - | 0 | -")
        self.says("wide 1", "2=0 1=0 | - | 0 | -")


class Beginning(Case):
    def setUp(self):
        self.desk = Desk("see 0 0\nsee 7 7\nload 1 0\nsee 1 1\nmark 6\nstop\nsee 2 2\nback")

    def both(self, answer):
        for word in ("plain", "wide"):
            self.says(f"{word} 100", answer)

    def test_boxes(self):
        self.says("box 0 5", "ok")
        self.both("0=5 7=0 1=0 | - | 0 1 2 3 4 5 | stop")
        self.says("box 7 -1000000000", "ok")
        self.both("0=5 7=-1000000000 1=0 | - | 0 1 2 3 4 5 | stop")
        self.says("box 0 1000000000", "ok")
        self.both("0=1000000000 7=-1000000000 1=0 | - | 0 1 2 3 4 5 | stop")
        self.says("box 0 0", "ok")
        self.says("box 7 0", "ok")
        self.both("0=0 7=0 1=0 | - | 0 1 2 3 4 5 | stop")

    def test_cells(self):
        self.says("cell 0 8", "ok")
        self.both("0=0 7=0 1=8 | - | 0 1 2 3 4 5 | stop")
        self.says("cell -3 -1000000000", "ok")
        self.says("box 0 -3", "ok")
        self.both("0=-3 7=0 1=-1000000000 | - | 0 1 2 3 4 5 | stop")
        self.says("cell -3 1000000000", "ok")
        self.both("0=-3 7=0 1=1000000000 | - | 0 1 2 3 4 5 | stop")
        self.says("cell -3 0", "ok")
        self.both("0=-3 7=0 1=0 | - | 0 1 2 3 4 5 | stop")

    def test_cells_of_forty_figures(self):
        desk = Desk("add 0 0\n" * 5 + "load 1 0\nsee 1 1\nstop")
        self.says("box 0 1000000000", "ok", desk)
        self.says("cell 32000000000 7", "ok", desk)
        self.says("plain 50", "1=7 | - | 0 1 2 3 4 5 6 7 | stop", desk)
        for cell in ("9" * 40, "-" + "9" * 40, "-1", "0"):
            self.says(f"cell {cell} 1", "ok", desk)
        for cell in ("9" * 41, "-" + "9" * 41, "1" + "0" * 40, "00", "-0", "01", "+1"):
            self.refused(f"cell {cell} 1", desk=desk)

    def test_bells(self):
        rung, unrung = "0 1 2 3 4 6 7 5", "0 1 2 3 4 5"
        self.both(f"0=0 7=0 1=0 | - | {unrung} | stop")
        for bells, is_rung in (("0", True), ("", False), ("1", False), ("1 0", True), ("-1", False), ("0 0 0", True),
                               ("-" + "9" * 40 + " 0 " + "9" * 40, True), ("5 6 7", False)):
            self.says("bells" + bool(bells) * " " + bells, "ok")
            if is_rung:
                self.both(f"0=0 7=0 1=0 2=0 | - | {rung} | stop")
            else:
                self.both(f"0=0 7=0 1=0 | - | {unrung} | stop")

    def test_no_such_lines(self):
        for line in ("box 8 1", "box -1 1", "box 0", "box", "box 0 1 2", "box 0 1000000001", "box 0 -1000000001",
                     "box 00 1", "box 0 01", "box 0 -0", "box x 1", "box 0 x", "box " + "9" * 40 + " 1",
                     "box " + "9" * 41 + " 1", "box 0 " + "9" * 40, "box 0 " + "9" * 5000, "cell", "cell 0", "cell 0 1 2",
                     "cell 0 1000000001", "cell 0 -1000000001", "cell x 1", "cell 0 x", "cell 0 01", "cell - 1",
                     "cell 0 -", "bells x", "bells 0 x", "bells 01", "bells -0", "bells -", "bells " + "9" * 41,
                     "bells 0 -" + "9" * 41, "bells 0 " + "9" * 5000, "bells 1,2", "bells  1"):
            self.refused(line)


class Runs(Case):
    def test_each_m(self):
        for line in ("wish before 1 look 7 0", "wish way 3 1 count 2", "wish after 0 guard 9 0"):
            self.says(line, "ok")
        for word in ("plain", "wide"):
            self.says(f"{word} 0", "- | 2=0 | - | -")
            self.says(f"{word} 1", "- | 2=0 | 0 | -")
            self.says(f"{word} 2", "7=3 | 2=0 | 0 1 | -")
            self.says(f"{word} 5", "7=3 7=2 | 2=1 | 0 1 2 3 1 | -")
            full = "7=3 7=2 7=1 7=0 | 2=3 | 0 1 2 3 1 2 3 1 2 3 1 4"
            self.says(f"{word} 12", full + " | -")
            self.says(f"{word} 13", full + " | stop")
            self.says(f"{word} 500", full + " | stop")

    def test_m_at_its_bounds(self):
        desk = Desk("jump 0")
        for word in ("plain", "wide"):
            self.says(f"{word} 500", "- | - | " + "0 " * 500 + "| -", desk)
            self.says(f"{word} 499", "- | - | " + "0 " * 499 + "| -", desk)
            self.says(f"{word} 0", "- | - | - | -", desk)
            for m in ("501", "1000", "-1", "-0", "00", "05", "", "x", "9" * 40, "9" * 41, "9" * 5000, "5 5", "5.0"):
                self.refused(f"{word} {m}", desk=desk)
            self.refused(word, desk=desk)

    def test_each_ending(self):
        for text, ending in (("stop", "stop"), ("back", "home"), ("halt 5", "halt 5"), ("halt 1000000", "halt 1000000")):
            for word in ("plain", "wide"):
                self.says(f"{word} 9", f"- | - | 0 | {ending}", Desk(text))
                self.says(f"{word} 1", "- | - | 0 | -", Desk(text))

    def test_a_guard_at_the_first_row(self):
        self.says("wish before 0 guard 6 1", "ok")
        self.says("wish before 0 count 2", "ok")
        self.says("box 1 -1", "ok")
        for word in ("plain", "wide"):
            self.says(f"{word} 9", "- | 2=0 | - | halt 6")
            self.says(f"{word} 1", "- | 2=0 | - | halt 6")
            self.says(f"{word} 0", "- | 2=0 | - | -")

    def test_counts_by_rising_numbers(self):
        for n in (10, 9, 100, 2, 9):
            self.says(f"wish before 0 count {n}", "ok")
        for word in ("plain", "wide"):
            self.says(f"{word} 1", "- | 2=1 9=2 10=1 100=1 | 0 | -")

    def test_asking_changes_nothing(self):
        self.says("wish before 1 look 7 0", "ok")
        before = state_of(self.desk)
        for k in range(3):
            self.assertEqual(state_of(self.desk), before)

    def test_wide_beside_plain(self):
        draw = random.Random(92)
        endings, words = set(), set()
        for k in range(300):
            rows = lively_program(draw, draw.choice((1, 3, 6, 12, 30)))
            wishes = random_wishes(draw, rows, draw.randrange(13))
            boxes, cells, bells = random_beginning(draw)
            desk = Desk(shown_rows(rows))
            for place, what in wishes:
                self.says("wish " + " ".join(map(str, place + what)), "ok", desk)
            for box, number in enumerate(boxes):
                self.says(f"box {box} {number}", "ok", desk)
            for cell, number in cells.items():
                self.says(f"cell {cell} {number}", "ok", desk)
            self.says(" ".join(["bells"] + [str(bell) for bell in bells]), "ok", desk)
            for most in (0, 1, draw.randrange(30), 100):
                reading = plain_reading(rows, wishes, boxes, cells, bells, most)
                self.says(f"plain {most}", shown(reading), desk)
                self.says(f"wide {most}", shown(reading), desk)
                endings.add(reading["ending"] and reading["ending"][0])
                words.update(rows[r][0] for r in reading["rows"])
        self.assertEqual(endings, {None, "stop", "halt", "home"})
        self.assertEqual(len(words), 20)


class NoLines(Case):
    def test_the_lines_themselves_are_right(self):
        for line in LINES:
            self.assertIs(type(self.desk.say(line)), str)

    def test_each_line_spoilt(self):
        self.desk.say("wish before 0 count 1")
        for line in LINES:
            words = line.split(" ")
            spoilt = [
                " " + line, line + " ", line + "\n", "\n" + line, line.upper(), line.title(), line + " x", line + " -",
                line + " 01", line + ";", line + "\t", "wish" + line, line[1:], line + " " + "9" * 41, words[0] + "  " +
                " ".join(words[1:]), line + " rows", line + "\nrows",
            ]
            spoilt += [" ".join(words[:k] + [""] + words[k:]) for k in range(len(words) + 1)]
            if words[0] != "bells":
                spoilt += [line + " 1"] + [" ".join(words[:k]) for k in range(1, len(words))]
            for k, word in enumerate(words):
                if word.isdigit():
                    spoilt += [" ".join(words[:k] + [other] + words[k + 1:]) for other in (
                        "0" + word, "+" + word, word + ".", "-0", "x", "", "-", word + "-", "9" * 41, "1_0", "1e1")]
            for one in spoilt:
                self.refused(one)

    def test_no_words_at_all(self):
        for line in ("", " ", "\n", "  ", "-", "0", "|", ";", "row", "wishs", "Rows", "ok", "none", "far", "stop",
                     "say rows", "rows rows", "rows layout", "rows 0", "free 0", "units 1", "layout x", "wishes 0"):
            self.refused(line)

    def test_what_is_no_text(self):
        for thing in NO_NUMBERS:
            if type(thing) is not str:
                self.refused(thing)

    def test_wishes_that_are_no_lines(self):
        for one in ("", "before", "before 0", "before 0 count", "before 0 look 1", "before 0 guard 1",
                    "before 0 count 1 2", "before 0 look 1 2 3", "before 0 look", "look 1 0", "count 1", "count 1 before 0",
                    "way 1 count 1", "way 1 2 3 count 1", "after count 1", "before 0 1 count 1", "after 1 2 count 1",
                    "before -1 count 1", "after -1 count 1", "way -1 2 count 1", "way 1 -2 count 1",
                    "before 0 count -1", "before 0 look -1 0", "before 0 look 1 -1", "before 0 guard -1 0",
                    "before 0 guard 1 -1", "on 0 count 1", "before 0 see 1 1", "Before 0 count 1", "before 0 Count 1",
                    "before 0  count 1", "before  0 count 1", "before 0 count 1 ", "before 00 count 1",
                    "before 0 count 01", "before 0 count " + "9" * 41, "before " + "0" * 41 + " count 1",
                    "before 0 count 9" + "0" * 40, "before x count 1", "before 0 count x", "way 1 2",
                    "wish before 0 count 1", "before 0 before 0 count 1", "before 0 count 1 count 1", "7", "0"):
            self.refused(f"wish {one}")
        self.refused("wish")


class Desks(Case):
    def test_two_beside_one_another(self):
        one, two = Desk(TEXT), Desk(TEXT)
        before = state_of(two)
        for line in LINES:
            one.say(line)
        self.assertNotEqual(state_of(one), before)
        self.assertEqual(state_of(two), before)
        two.say("wish before 0 count 4")
        self.says("wishes", "before 0 count 4", two)
        self.says("wishes", "after 1 count 7; way 3 1 guard 7 0", one)

    def test_a_new_desk_begins_anew(self):
        for line in LINES:
            self.desk.say(line)
        self.assertEqual(state_of(Desk(TEXT)), state_of(Desk(TEXT)))
        self.says("wishes", "none", Desk(TEXT))
        self.says("plain 2", "- | - | 0 1 | -", Desk(TEXT))

    def test_what_is_told_last_counts(self):
        desk = Desk("see 0 1\nstop")
        for number in (5, 6, -7):
            desk.say(f"box 0 {number}")
        self.says("plain 9", "1=-7 | - | 0 1 | stop", desk)


if __name__ == "__main__":
    unittest.main()

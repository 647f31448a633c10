import copy
import random
import unittest

from samples import FORMS, STOP, random_program
from widenrows.errors import NoText
from widenrows.rows import check_rows
from widenrows.texts import read_rows, shown_rows

# Rows at their bounds, and their lines.
EDGES = (
    (("halt", 0), "halt 0"), (("halt", 10**6), "halt 1000000"),
    (("set", 0, -10**9), "set 0 -1000000000"), (("set", 7, 10**9), "set 7 1000000000"),
    (("set", 0, 0), "set 0 0"), (("more", 0, -1), "more 0 -1"), (("more", 7, -10), "more 7 -10"),
    (("see", 0, 0), "see 0 0"), (("see", 7, 10**6), "see 7 1000000"),
    (("put", 0, 0), "put 0 0"), (("put", 7, 10**6), "put 7 1000000"), (("take", 0, 10**6), "take 0 1000000"),
    (("jump", 0, 0), "jump 0"), (("jump", 10**9, 1), "jump far 1000000000"),
    (("zero", 0, 10**9, 0), "zero 0 1000000000"), (("zero", 3, 12, 1), "zero far 3 12"),
    (("below", 7, 0, 1), "below far 7 0"), (("call", 10**9, 0), "call 1000000000"), (("mark", 0, 1), "mark far 0"),
    (("table", 0, (0,)), "table 0 0"), (("table", 7, (10**9,) * 16), "table 7" + " 1000000000" * 16),
    (("table", 0, (2, 2, 1)), "table 0 2 2 1"),
)

# Lines with one part left open: a number, an aside or a target; a box.
WITH_A_NUMBER = ("set 1 {}", "more 1 {}", "see 1 {}", "put 1 {}", "take 1 {}", "halt {}", "jump {}", "jump far {}",
                 "zero 1 {}", "zero far 1 {}", "below 1 {}", "call {}", "call far {}", "mark {}", "table 1 {}",
                 "table 1 2 {}", "table 1 {} 2")
WITH_A_BOX = ("set {} 1", "more {} 1", "copy {} 1", "copy 1 {}", "add {} 1", "add 1 {}", "less {} 1", "less 1 {}",
              "load {} 1", "load 1 {}", "keep {} 1", "keep 1 {}", "tell {}", "see {} 1", "put {} 1", "take {} 1",
              "zero {} 1", "zero far {} 1", "below {} 1", "below far {} 1", "table {} 1")
NO_NUMBER = ("", "00", "01", "007", "-0", "-00", "-01", "+1", "+0", "--1", "-", "- 1", "1-", "1.0", "1e1", "0x1", "1_0",
             "1,0", "a", "far", "one", "None", "True", "(1,)", "1\t", "\t1", "1\r", "\u0661", "\u00b2", "\uff11")


class Case(unittest.TestCase):
    def refused(self, text, at):
        with self.assertRaises(NoText) as caught:
            read_rows(text)
        self.assertIs(type(caught.exception.at), int)
        self.assertEqual(caught.exception.at, at)

    def refused_line(self, line):
        with self.subTest(line=line[:60]):
            self.refused(line, 0)
            self.refused("stop\ntell 1\n" + line, 2)
            self.refused("stop\ntell 1\n" + line + "\nstop", 2)
            self.refused("stop\ntell 1\n" + line + "\nnone\n", 2)


class Shown(Case):
    def test_each_form(self):
        for row, line, size in FORMS:
            self.assertEqual(shown_rows([row]), line)

    def test_numbers_at_their_bounds(self):
        for row, line in EDGES:
            self.assertEqual(shown_rows([row]), line)

    def test_line_feeds_stand_between_rows_alone(self):
        self.assertEqual(shown_rows([STOP, STOP]), "stop\nstop")
        rows = [("set", 0, 3), ("zero", 0, 4, 0), ("more", 0, -1), ("jump", 1, 1), STOP]
        self.assertEqual(shown_rows(rows), "set 0 3\nzero 0 4\nmore 0 -1\njump far 1\nstop")

    def test_any_list_of_rows(self):
        self.assertEqual(shown_rows([]), "")
        self.assertEqual(shown_rows([("jump", 9, 0), ("tell", 0)]), "jump 9\ntell 0")
        self.assertEqual(shown_rows([STOP] * 5000), "\n".join(["stop"] * 5000))

    def test_rows_stay_as_they_were(self):
        rows = [row for row, line, size in FORMS]
        before = copy.deepcopy(rows)
        shown_rows(rows)
        self.assertEqual(rows, before)


class Read(Case):
    def same(self, told, rows):
        self.assertIs(type(told), list)
        self.assertEqual(told, rows)
        for row in told:
            self.assertIs(type(row), tuple)
            self.assertFalse([part for part in row if isinstance(part, (bool, list))], row)

    def test_each_form(self):
        for row, line, size in FORMS:
            self.same(read_rows(line), [row])

    def test_numbers_at_their_bounds(self):
        for row, line in EDGES:
            self.same(read_rows(line), [row])

    def test_all_forms_in_one_text(self):
        rows = [row for row, line, size in FORMS] + [row for row, line in EDGES]
        lines = [line for row, line, size in FORMS] + [line for row, line in EDGES]
        self.same(read_rows("\n".join(lines)), rows)
        self.assertEqual(shown_rows(rows), "\n".join(lines))

    def test_what_is_shown_is_read_back(self):
        draw = random.Random(6)
        for k in range(200):
            rows = random_program(draw, draw.randrange(1, 40))
            check_rows(rows)
            self.same(read_rows(shown_rows(rows)), rows)

    def test_what_is_read_is_no_program_perforce(self):
        self.same(read_rows("tell 0"), [("tell", 0)])
        self.same(read_rows("jump 1"), [("jump", 1, 0)])
        self.same(read_rows("table 0 1000000000\nmark 77"), [("table", 0, (10**9,)), ("mark", 77, 0)])
        self.same(read_rows("\n".join(["stop"] * 4000)), [STOP] * 4000)
        self.same(read_rows("\n".join(["stop"] * 4001)), [STOP] * 4001)
        self.same(read_rows("\n".join(["tell 1"] * 9000)), [("tell", 1)] * 9000)

    def test_each_text_is_read_to_a_new_list(self):
        text = "table 0 1 2\nstop\nstop"
        first = read_rows(text)
        first.append(STOP)
        first[0] = STOP
        self.same(read_rows(text), [("table", 0, (1, 2)), STOP, STOP])


class NoTexts(Case):
    def test_what_is_no_text(self):
        for thing in (None, 0, 1, True, [], ["stop"], ("stop",), {}, b"stop", b"", [STOP], 1.5):
            with self.subTest(thing=thing):
                self.refused(thing, 0)

    def test_a_text_without_signs(self):
        self.refused("", 0)


class LineFeeds(Case):
    def test_ahead(self):
        self.refused("\nstop", 0)
        self.refused("\n", 0)
        self.refused("\n\n\n", 0)

    def test_at_the_end(self):
        self.refused("stop\n", 1)
        self.refused("tell 1\nstop\n", 2)
        self.refused("tell 1\nstop\n\n", 2)

    def test_two_in_one_place(self):
        self.refused("tell 1\n\nstop", 1)
        self.refused("tell 1\ntell 2\n\n\nstop\n", 2)

    def test_other_row_ends_are_none(self):
        for sign in ("\r", "\r\n", "\x0b", "\x0c", "\x1c", "\x85", "\u2028", ";", "\\n"):
            self.refused("stop" + sign + "stop", 0)
            self.refused("stop\nstop" + sign, 1)


class NoLines(Case):
    def test_words_that_are_none(self):
        for line in ("", "Stop", "STOP", "sto", "stops", "far", "far jump 3", "end", "5", "0", "-", "('stop',)", "stop;",
                     "# stop", "box", "target", "None", "number 3"):
            self.refused_line(line)

    def test_blanks_too_many(self):
        for row, line, size in FORMS:
            self.refused_line(" " + line)
            self.refused_line(line + " ")
            self.refused_line(line + "  ")
            for at, sign in enumerate(line):
                if sign == " ":
                    self.refused_line(line[:at] + " " + line[at:])
                    self.refused_line(line[:at] + "\t" + line[at + 1:])
        for line in (" ", "  "):
            self.refused_line(line)

    def test_blanks_that_lack(self):
        for line in ("tell1", "set 12", "jumpfar 3", "jump far3", "zero far12", "halt5"):
            self.refused_line(line)

    def test_a_part_too_many(self):
        for row, line, size in FORMS:
            if row[0] != "table":
                self.refused_line(line + " 1")
            self.refused_line(line + " far")

    def test_a_part_that_lacks(self):
        for row, line, size in FORMS:
            if " " in line and not (row[0] == "table" and len(row[2]) > 1):
                self.refused_line(line.rpartition(" ")[0])
        for line in ("jump", "jump far", "zero far", "zero far 3", "zero 3", "table", "table 3", "call far", "mark"):
            self.refused_line(line)

    def test_far_elsewhere(self):
        for line in ("jump 3 far", "zero 3 far 12", "zero 3 12 far", "far zero 3 12", "jump far far 3", "call FAR 3",
                     "mark Far 3", "jump  far 3", "below near 1 2", "jump 3 1", "jump 3 0", "zero 3 12 1"):
            self.refused_line(line)

    def test_far_of_rows_that_have_none(self):
        for line in ("stop far", "back far", "halt far 5", "set far 1 1", "more far 1 1", "copy far 1 1", "add far 1 1",
                     "less far 1 1", "load far 1 1", "keep far 1 1", "tell far 1", "see far 1 1", "put far 1 1",
                     "take far 1 1", "table far 1 1", "table far 1 1 1"):
            self.refused_line(line)

    def test_tables(self):
        self.refused_line("table 1")
        self.refused_line("table 1 " + " ".join(["2"] * 17))
        self.refused_line("table 1 " + " ".join(["2"] * 1000))
        self.refused_line("table 1 (2, 3)")
        self.refused_line("table 1 2, 3")


class Numbers(Case):
    def test_what_is_no_number(self):
        for word in NO_NUMBER:
            for form in WITH_A_NUMBER + WITH_A_BOX:
                if not (word == "far" and form in ("jump {}", "call {}", "mark {}")):
                    self.refused_line(form.replace("{}", word))

    def test_boxes_beyond_their_bounds(self):
        for form in WITH_A_BOX:
            for word in ("8", "-1", "9", "10", "17", "1000000000"):
                self.refused_line(form.replace("{}", word))

    def test_numbers_beyond_their_bounds(self):
        for form in WITH_A_NUMBER:
            greatest = 10**6 if form.split()[0] in ("halt", "see", "put", "take") else 10**9
            least = -10**9 if form.split()[0] in ("set", "more") else 0
            for number in (least, greatest):
                self.assertEqual(len(read_rows(form.replace("{}", str(number)))), 1, form)
            for number in (least - 1, greatest + 1, -10**10, 10**10, 9999999999, 99999999999):
                self.refused_line(form.replace("{}", str(number)))

    def test_numbers_of_many_figures(self):
        for form in WITH_A_NUMBER + WITH_A_BOX:
            for count in (11, 40, 4300, 4301, 6000):
                self.refused_line(form.replace("{}", "1" * count))
                self.refused_line(form.replace("{}", "-" + "9" * count))
                self.refused_line(form.replace("{}", "0" * count + "1"))

    def test_a_number_of_a_million_figures(self):
        self.refused("stop\nset 0 " + "7" * 10**6 + "\nstop", 1)
        self.refused("stop\nset 0 " + "0" * 10**6 + "\nstop", 1)


class First(Case):
    def test_the_first_of_several(self):
        self.refused("stop\nnone\ntell 8\n", 1)
        self.refused("none\n\n", 0)
        self.refused("stop\nstop\ntell 8\nnone", 2)

    def test_behind_many_rows(self):
        self.refused("\n".join(["stop"] * 5000 + ["tell"]), 5000)
        self.refused("\n".join(["stop"] * 4000 + ["", "stop"]), 4000)


if __name__ == "__main__":
    unittest.main()

import copy
import random
import unittest

from samples import NO_NUMBERS, lists_within, lively_program, paper_of, random_wishes, spoil
from widenrows.errors import NoText, RowError
from widenrows.papers import check_paper
from widenrows.papertexts import read_paper, shown_paper
from widenrows.widen import widened

KEYS = ["leads", "forms", "free", "counts"]
TEXT = "leads 0 - 1 -\nforms 0 1\nfree 07 -\ncounts 5:0 7:9"
PAPER = {"leads": [0, None, 1, None], "forms": [0, 1], "free": [(0, 7), ()], "counts": [(5, 0), (7, 9)]}


def text_of(leads="leads", forms="forms", free="free", counts="counts"):
    return "\n".join((leads, forms, free, counts))


class Case(unittest.TestCase):
    def both(self, paper, text):
        with self.subTest(text=text):
            self.assertEqual(shown_paper(paper), text)
            told = read_paper(text)
            self.assertEqual(told, paper)
            self.assertEqual(list(told), KEYS)

    def refused(self, text, at):
        with self.subTest(text=text):
            with self.assertRaises(RowError) as caught:
                read_paper(text)
            self.assertIs(type(caught.exception), NoText)
            self.assertEqual(caught.exception.at, at)
            self.assertIs(type(caught.exception.at), int)


class Both(Case):
    def test_one(self):
        self.both(PAPER, TEXT)

    def test_nothing_at_all(self):
        self.both({"leads": [], "forms": [], "free": [], "counts": []}, "leads\nforms\nfree\ncounts")

    def test_leads(self):
        for leads, shown in (([None], "leads -"), ([0], "leads 0"), ([10**9], "leads 1000000000"),
                             ([None] * 3, "leads - - -"), ([7, None, 10, 7, 999999999], "leads 7 - 10 7 999999999")):
            self.both({"leads": leads, "forms": [], "free": [], "counts": []}, text_of(leads=shown))

    def test_forms(self):
        for forms, shown in (([0], "forms 0"), ([1], "forms 1"), ([1, 0, 0, 1], "forms 1 0 0 1")):
            self.both({"leads": [], "forms": forms, "free": [], "counts": []}, text_of(forms=shown))

    def test_boxes_none_and_all(self):
        for free, shown in (([()], "free -"), ([tuple(range(8))], "free 01234567"), ([(3,), (), (0, 5)], "free 3 - 05"),
                            ([(box,) for box in range(8)], "free 0 1 2 3 4 5 6 7")):
            self.both({"leads": [], "forms": [], "free": free, "counts": []}, text_of(free=shown))

    def test_counts_in_any_order_and_twice(self):
        for counts, shown in (([(0, 0)], "counts 0:0"), ([(10**6, 10**6)], "counts 1000000:1000000"),
                              ([(3, 1), (2, 1), (3, 1), (9, 0)], "counts 3:1 2:1 3:1 9:0")):
            self.both({"leads": [], "forms": [], "free": [], "counts": counts}, text_of(counts=shown))

    def test_how_many_hangs_on_no_other_row(self):
        self.both({"leads": [5] * 4, "forms": [1], "free": [()] * 3, "counts": []},
                  "leads 5 5 5 5\nforms 1\nfree - - -\ncounts")
        self.both({"leads": [], "forms": [0] * 9, "free": [], "counts": [(1, 1)] * 5},
                  "leads\nforms 0 0 0 0 0 0 0 0 0\nfree\ncounts 1:1 1:1 1:1 1:1 1:1")

    def test_papers_of_widened_rows(self):
        draw = random.Random(81)
        for k in range(60):
            rows = lively_program(draw, draw.randrange(1, 30))
            new, paper = widened(rows, random_wishes(draw, rows, draw.randrange(13)))
            told = read_paper(shown_paper(paper))
            self.assertEqual(told, paper)
            self.assertIsNone(check_paper(rows, new, told))

    def test_many_rows(self):
        rows = [("jump", 0, 1)] * 4000
        paper = paper_of(rows, range(4000))
        self.assertEqual(read_paper(shown_paper(paper)), paper)

    def test_kinds(self):
        told = read_paper(TEXT)
        self.assertIs(type(told), dict)
        self.assertEqual([type(part) for part in told.values()], [list] * 4)
        self.assertEqual([type(one) for one in told["leads"]], [int, type(None)] * 2)
        self.assertTrue(all(type(one) is tuple for one in told["free"] + told["counts"]))
        self.assertIs(type(shown_paper(PAPER)), str)

    def test_drawn_papers(self):
        draw = random.Random(82)
        for k in range(300):
            paper = {
                "leads": [draw.choice((None, draw.randrange(10**draw.randrange(1, 10))))
                          for n in range(draw.randrange(6))],
                "forms": [draw.randrange(2) for n in range(draw.randrange(6))],
                "free": [tuple(box for box in range(8) if draw.random() < 0.4) for n in range(draw.randrange(6))],
                "counts": [(draw.randrange(10**6 + 1), draw.randrange(30)) for n in range(draw.randrange(4))],
            }
            text = shown_paper(paper)
            self.assertEqual(read_paper(text), paper)
            self.assertEqual(shown_paper(read_paper(text)), text)


class Refused(Case):
    ROWS = TEXT.split("\n")

    def test_what_is_no_text(self):
        for thing in NO_NUMBERS + (self.ROWS, PAPER, 0, b"leads"):
            if type(thing) is not str:
                self.refused(thing, 0)

    def test_rows_left_out_at_the_end(self):
        for count in range(1, 4):
            self.refused("\n".join(self.ROWS[:count]), count)
        self.refused("", 0)
        self.refused("leads", 1)
        self.refused("leads\nforms\nfree", 3)

    def test_rows_left_out_ahead(self):
        for at in range(3):
            self.refused("\n".join(self.ROWS[:at] + self.ROWS[at + 1:]), at)

    def test_more_rows(self):
        for more in ("", "counts", "counts 1:1", "leads", "x", " "):
            self.refused(TEXT + "\n" + more, 4)
            self.refused(TEXT + "\n" + more + "\n", 4)
            self.refused(TEXT + "\n" + more + "\nx\nx", 4)

    def test_a_row_twice(self):
        for at in range(3):
            self.refused("\n".join(self.ROWS[:at] + [self.ROWS[at]] + self.ROWS[at:]), at + 1)
        self.refused("\n".join(self.ROWS + self.ROWS[3:]), 4)

    def test_rows_exchanged(self):
        for one in range(4):
            for two in range(one + 1, 4):
                rows = list(self.ROWS)
                rows[one], rows[two] = rows[two], rows[one]
                self.refused("\n".join(rows), one)

    def test_line_feeds_elsewhere(self):
        self.refused("\n" + TEXT, 0)
        for at in range(1, 4):
            self.refused("\n".join(self.ROWS[:at] + [""] + self.ROWS[at:]), at)
        self.refused("\n", 0)
        self.refused("leads\n", 1)
        self.refused("leads\nforms\n", 2)
        self.refused("leads\nforms\nfree\n", 3)
        self.refused("leads\nforms\nfree\ncounts\n", 4)

    def test_each_row_spoilt(self):
        for at, row in enumerate(self.ROWS):
            for spoilt in (" " + row, row + " ", row.replace(" ", "  ", 1), row.upper(), row[1:], row + " x", row + " -x",
                           row + " +1", row + " 01:1", row + " 00", row + " 1.0", row + ",", "", " ", "x", row + "\t",
                           row + " :", row + " 1:", row + " :1", row + " 1:2:3", row + " --", row + " -0", row + " 8-"):
                self.refused("\n".join(self.ROWS[:at] + [spoilt] + self.ROWS[at + 1:]), at)
                # Whatever lacks or is wrong behind it.
                self.refused("\n".join(self.ROWS[:at] + [spoilt]), at)
                self.refused("\n".join(self.ROWS[:at] + [spoilt] + ["x"] * 5), at)

    def test_leads(self):
        for word in ("-1", "-0", "01", "00", "1000000001", "9999999999", "10000000000", "9" * 5000, "-" + "9" * 5000, "+1",
                     "1_0", "--", "1-", "1:1", "x", "0x1", "1e3", ""):
            for shown in (f"leads {word}", f"leads 1 {word}", f"leads {word} 1"):
                self.refused(text_of(leads=shown), 0)

    def test_forms(self):
        for word in ("2", "-1", "-", "01", "00", "10", "-0", "1:1", "x", "9" * 5000, ""):
            for shown in (f"forms {word}", f"forms 1 {word}", f"forms {word} 0"):
                self.refused(text_of(forms=shown), 1)

    def test_free(self):
        for word in ("8", "9", "00", "11", "10", "021", "0-", "-0", "--", "-1", "012345678", "76543210", "0 ", "0,1", "x",
                     "1:1", "77", ""):
            for shown in (f"free {word}", f"free 1 {word}", f"free {word} 01"):
                self.refused(text_of(free=shown), 2)

    def test_counts(self):
        for word in ("1", "-", "1:", ":1", ":", "1:1:1", "1;1", "-1:1", "1:-1", "01:1", "1:01", "1000001:1", "1:1000001",
                     "-0:1", "1:-0", "9" * 5000 + ":1", "1:" + "9" * 5000, "+1:1", "1:+1", "x:1", "1:x", "1 :1", "1: 1",
                     "1::1", ""):
            for shown in (f"counts {word}", f"counts 1:1 {word}", f"counts {word} 1:1"):
                self.refused(text_of(counts=shown), 3)

    def test_the_first_wrong_row(self):
        self.refused("leads x\nforms x\nfree x\ncounts x\nmore", 0)
        self.refused("leads\nforms x\nfree x\ncounts x\nmore", 1)
        self.refused("leads\nforms\nfree x\ncounts x\nmore", 2)
        self.refused("leads\nforms\nfree\ncounts x\nmore", 3)
        self.refused("leads\nforms\nfree\ncounts\nmore", 4)


class AskersOwn(Case):
    def test_what_is_handed_in_stays(self):
        paper = copy.deepcopy(PAPER)
        shown_paper(paper)
        self.assertEqual(paper, PAPER)

    def test_what_is_told_is_the_askers_own(self):
        one, two = read_paper(TEXT), read_paper(TEXT)
        held = lists_within((one, two))
        self.assertEqual(len({id(part) for part in held}), len(held))
        spoil(one)
        self.assertEqual(two, PAPER)
        self.assertEqual(read_paper(TEXT), PAPER)


if __name__ == "__main__":
    unittest.main()

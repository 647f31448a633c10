"""What the document promises over the whole program: all of it one behind the other."""

import copy
import inspect
import random
import unittest

from samples import lists_within, lively_program, random_beginning, random_wishes, spoil
from widenrows import (desk, errors, free, layout, machine, out, papers, papertexts, plain, rows, texts, units, ways, widen,
                       wishes)

# The interface: each name and its arguments.
FUNCTIONS = {
    rows: {"check_rows": ["rows"]},
    texts: {"shown_rows": ["rows"], "read_rows": ["text"]},
    ways: {"ways_of": ["rows", "r"]},
    layout: {"check_layout": ["rows"], "least_layout": ["rows"]},
    units: {"units_of": ["rows"], "rows_of_units": ["units"]},
    free: {"reads_of": ["row"], "writes_of": ["row"], "check_free": ["rows", "claims"], "free_boxes": ["rows"]},
    wishes: {"check_wishes": ["rows", "wishes"]},
    widen: {"widened": ["rows", "wishes"]},
    plain: {"plain_seen": ["rows", "wishes", "boxes", "cells", "bells", "most"]},
    papers: {"check_paper": ["old", "new", "paper"]},
    out: {"taken_out": ["new", "paper"], "places_led": ["old", "new", "paper", "place"]},
    papertexts: {"shown_paper": ["paper"], "read_paper": ["text"]},
}
CLASSES = (
    (machine.Machine, ["rows", "boxes", "cells", "bells"],
     {"row": [], "ending": [], "boxes": [], "cells": [], "asides": [], "told": [], "seen": [], "deep": [], "passed": [],
      "step": [], "run": ["most"]}),
    (desk.Desk, ["text"], {"say": ["line"]}),
)


class Interface(unittest.TestCase):
    def test_functions(self):
        for module, functions in FUNCTIONS.items():
            for name, arguments in functions.items():
                with self.subTest(name=name):
                    self.assertEqual(list(inspect.signature(getattr(module, name)).parameters), arguments)

    def test_classes(self):
        for kind, arguments, methods in CLASSES:
            self.assertEqual(list(inspect.signature(kind).parameters), arguments)
            for name, parts in methods.items():
                self.assertEqual(list(inspect.signature(getattr(kind, name)).parameters), ["self"] + parts)

    def test_refusals(self):
        for name in ("NoRows", "NoText", "NoLayout", "NoUnits", "NoFree", "NoWish"):
            self.assertEqual(getattr(errors, name)(7).at, 7)
        for name in ("Ended", "NoPaper", "TooMuch", "NoLine"):
            self.assertFalse(hasattr(getattr(errors, name)(), "at"))
        kinds = [kind for kind in vars(errors).values() if isinstance(kind, type) and kind is not errors.RowError]
        self.assertEqual(len(kinds), 10)
        for kind in kinds:
            self.assertEqual(kind.__bases__, (errors.RowError,))
        self.assertEqual(errors.RowError.__bases__, (ValueError,))


class OneBehindTheOther(unittest.TestCase):
    def test_the_rows_are_the_first_ones_again(self):
        draw = random.Random(101)
        for k in range(60):
            first = layout.least_layout(lively_program(draw, draw.choice((1, 5, 20, 120))))
            read = texts.read_rows(texts.shown_rows(first))
            read = units.rows_of_units(units.units_of(read))
            new, paper = widen.widened(read, random_wishes(draw, read, draw.randrange(13)))
            new = units.rows_of_units(units.units_of(texts.read_rows(texts.shown_rows(new))))
            paper = papertexts.read_paper(papertexts.shown_paper(paper))
            self.assertIsNone(papers.check_paper(first, new, paper))
            self.assertEqual(out.taken_out(new, paper), first)

    def test_a_desk_and_its_texts(self):
        draw = random.Random(102)
        for k in range(30):
            first = lively_program(draw, draw.choice((1, 5, 20)))
            new, paper = widen.widened(first, random_wishes(draw, first, 5))
            told = desk.Desk(texts.shown_rows(new))
            self.assertEqual(texts.read_rows(told.say("layout")), new)
            read = units.rows_of_units([int(unit) for unit in told.say("units").split(" ")])
            self.assertEqual(out.taken_out(read, paper), first)

    def test_nothing_is_shared_and_nothing_is_changed(self):
        draw = random.Random(103)
        for k in range(30):
            first = layout.least_layout(lively_program(draw, 12))
            asked = random_wishes(draw, first, 6)
            boxes, cells, bells = random_beginning(draw)
            new, paper = widen.widened(first, asked)
            handed = (first, asked, boxes, cells, bells, new, paper)
            kept = copy.deepcopy(handed)

            def all_told():
                return [
                    texts.read_rows(texts.shown_rows(first)), ways.ways_of(first, 0), layout.least_layout(first),
                    units.units_of(first), units.rows_of_units(units.units_of(first)), free.reads_of(first[0]),
                    free.writes_of(first[0]), free.free_boxes(first), widen.widened(first, asked),
                    plain.plain_seen(first, asked, boxes, cells, bells, 30), out.taken_out(new, paper),
                    out.places_led(first, new, paper, ("before", 3)), papertexts.read_paper(papertexts.shown_paper(paper)),
                ]

            told, again = all_told(), all_told()
            self.assertEqual(told, again)
            all_kept = copy.deepcopy(again)
            held = lists_within(told) + lists_within(again) + lists_within(handed)
            self.assertEqual(len({id(one) for one in held}), len(held))
            for one in told:
                for part in lists_within(one):
                    part.clear()
            self.assertEqual(handed, kept)
            self.assertEqual(all_told(), again)
            spoil(handed)
            self.assertEqual(again, all_kept)


if __name__ == "__main__":
    unittest.main()

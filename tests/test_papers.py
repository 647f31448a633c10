import copy
import random
import unittest

from samples import (JUMPING, NO_NUMBERS, STOP, asides_named, lively_program, paper_of, plain_run, random_beginning,
                     random_program, random_row, random_wishes)
from widenrows.errors import NoFree, NoPaper, RowError, TooMuch
from widenrows.free import check_free, free_boxes
from widenrows.machine import Machine
from widenrows.papers import check_paper
from widenrows.rows import check_rows
from widenrows.widen import widened

ALL = tuple(range(8))
MAY_BE_PUT_IN = ("set", "more", "copy", "add", "less", "put", "take", "see", "jump", "zero", "below", "halt")


def targets_of(row):
    if row[0] == "table":
        return list(row[2])
    return [row[-2]] if row[0] in JUMPING else []


def goes_on(row):
    return row[0] not in ("stop", "back", "halt", "jump")


def staying(row):
    return row[:2] + (len(row[2]),) if row[0] == "table" else row[:-2] if row[0] in JUMPING else row


def roads_from(new, leads, start):
    """Every road of a walk, written out whole, and of how many rows the walk is; None where they are too many."""
    roads, counted, waiting = [], 0, [(start,)]
    while waiting:
        road = waiting.pop()
        here = road[-1]
        if leads[here] is not None or here in road[:-1]:
            roads.append(road)
            continue
        counted += 1
        if counted > 2000:
            return None
        if new[here][0] == "halt":
            roads.append(road)
            continue
        for there in targets_of(new[here]) + [here + 1] * goes_on(new[here]):
            waiting.append(road + (there,))
    return roads


def is_good_road(new, leads, free, road, right):
    end = road[-1]
    if leads[end] is None:
        return end not in road[:-1]
    if leads[end] != right:
        return False
    holds = {("box", box): box for box in ALL}
    for here in road[:-1]:
        word, *parts = new[here]
        if word == "copy":
            holds["box", parts[0]] = holds["box", parts[1]]
        elif word == "take":
            holds["box", parts[0]] = holds.get(("aside", parts[1]))
        elif word == "put":
            holds["aside", parts[1]] = holds["box", parts[0]]
        elif word in ("set", "more", "add", "less"):
            holds["box", parts[0]] = None
    return all(holds["box", box] == box for box in ALL if box not in free[right])


def verdict(old, new, paper):
    """Another checker, of papers whose parts are of the right kinds."""
    leads, free = paper["leads"], paper["free"]
    if sorted(lead for lead in leads if lead is not None) != list(range(len(old))):
        return NoPaper
    if paper["forms"] != paper_of(old, [])["forms"]:
        return NoPaper
    for row, lead in zip(new, leads):
        if lead is None:
            if row[0] not in MAY_BE_PUT_IN or row[0] == "put" and row[2] in asides_named(old):
                return NoPaper
        elif staying(row) != staying(old[lead]):
            return NoPaper
    try:
        check_free(old, free)
    except NoFree:
        return NoPaper
    ways = [(0, 0)]
    for n, lead in enumerate(leads):
        if lead is not None:
            ways += [(n + 1, lead + 1)] * goes_on(new[n]) + list(zip(targets_of(new[n]), targets_of(old[lead])))
    walks = [(roads_from(new, leads, start), right) for start, right in ways]
    if any(roads is None for roads, right in walks):
        return TooMuch
    if all(is_good_road(new, leads, free, road, right) for roads, right in walks for road in roads):
        return None
    return NoPaper


class Case(unittest.TestCase):
    def let_by(self, old, new, paper):
        check_rows(old)
        check_rows(new)
        with self.subTest(old=old, new=new, paper=paper):
            self.assertIsNone(check_paper(old, new, paper))
            self.assertIsNone(verdict(old, new, paper))

    def refused(self, old, new, paper, error=NoPaper):
        check_rows(old)
        check_rows(new)
        kept = copy.deepcopy((old, new, paper))
        with self.subTest(old=old[:20], new=new[:20], paper=repr(paper)[:500]):
            with self.assertRaises(RowError) as caught:
                check_paper(old, new, paper)
            self.assertIs(type(caught.exception), error)
            self.assertEqual((old, new, paper), kept)

    def refused_by_both(self, old, new, paper, error=NoPaper):
        self.refused(old, new, paper, error)
        self.assertIs(verdict(old, new, paper), error)

    def put_ahead(self, rows, free=()):
        """Rows put in between two old rows, of which the second has these free boxes; and the paper."""
        old = [("tell", 0)] + [("set", box, 1) for box in free] + [STOP]
        new = [("tell", 0)] + list(rows) + old[1:]
        leads = [0] + [None] * len(rows) + list(range(1, len(old)))
        claims = [()] + [tuple(free[k:]) for k in range(len(free))] + [()]
        return old, new, paper_of(old, leads, claims)

    def good(self, *rows, free=()):
        self.let_by(*self.put_ahead(rows, free))

    def bad(self, *rows, free=()):
        self.refused_by_both(*self.put_ahead(rows, free))


class RightPapers(Case):
    def test_rows_beside_themselves(self):
        draw = random.Random(61)
        for k in range(60):
            rows = random_program(draw, draw.randrange(1, 40))
            for free in (None, free_boxes(rows)):
                self.let_by(rows, rows, paper_of(rows, range(len(rows)), free))

    def test_papers_of_widened(self):
        draw = random.Random(62)
        for k in range(60):
            rows = lively_program(draw, draw.randrange(1, 20))
            new, paper = widened(rows, random_wishes(draw, rows, draw.randrange(13)))
            self.let_by(rows, new, paper)
            self.let_by(rows, new, dict(paper, free=[()] * len(rows)))

    def test_counts_and_other_keys_are_not_looked_at(self):
        paper = paper_of([STOP], [0])
        self.let_by([STOP], [STOP], paper)
        for counts in (None, 5, [(1, 1), (1, 1)], [True], "x"):
            self.let_by([STOP], [STOP], dict(paper, counts=counts))
        self.let_by([STOP], [STOP], dict(paper, more=[1], leader=None))
        self.let_by([STOP], [STOP], {key: paper[key] for key in ("free", "forms", "leads")})

    def test_rows_in_another_order(self):
        old = [("zero", 0, 2, 0), ("jump", 0, 0), ("tell", 3), STOP]
        new = [("jump", 4, 0), STOP, ("tell", 3), ("jump", 1, 1), ("zero", 0, 2, 1), ("jump", 4, 0)]
        self.let_by(old, new, paper_of(old, [None, 3, 2, None, 0, 1]))
        self.refused_by_both(old, new, paper_of(old, [None, 3, 2, None, 0, None]))

    def test_far_may_be_other(self):
        old = [("jump", 1, 1), ("zero", 0, 0, 0), STOP]
        self.let_by(old, [("jump", 1, 0), ("zero", 0, 0, 1), STOP], paper_of(old, range(3)))

    def test_it_tells_nothing_and_changes_nothing(self):
        rows = [("tell", 0), STOP]
        new, paper = widened(rows, [(("before", 1), ("count", 4))])
        kept = copy.deepcopy((rows, new, paper))
        self.assertIsNone(check_paper(rows, new, paper))
        self.assertEqual((rows, new, paper), kept)


class NoPapers(Case):
    OLD = [("zero", 1, 2, 1), ("table", 2, (0, 2)), ("see", 3, 4), STOP]

    def setUp(self):
        self.new = [("zero", 1, 2, 1), ("table", 2, (0, 2)), ("see", 0, 7), ("see", 3, 4), STOP]
        self.paper = paper_of(self.OLD, [0, 1, None, 2, 3], free_boxes(self.OLD))

    def spoilt(self, **parts):
        self.refused(self.OLD, self.new, dict(self.paper, **parts))

    def test_the_right_one(self):
        self.let_by(self.OLD, self.new, self.paper)

    def test_what_is_no_dict(self):
        for thing in (None, True, 0, 1, "", "leads", [], [("leads", 1)], list(self.paper), tuple(self.paper.items()),
                      set(self.paper)):
            self.refused(self.OLD, self.new, thing)

    def test_keys_that_lack(self):
        self.refused(self.OLD, self.new, {})
        for key in ("leads", "forms", "free"):
            paper = dict(self.paper)
            del paper[key]
            self.refused(self.OLD, self.new, paper)
            paper[key.upper()] = self.paper[key]
            self.refused(self.OLD, self.new, paper)

    def test_leads_of_another_kind(self):
        for leads in NO_NUMBERS + (tuple(self.paper["leads"]), "01-23", dict(enumerate(self.paper["leads"])), 5):
            self.spoilt(leads=leads)

    def test_leads_too_short_and_too_long(self):
        leads = self.paper["leads"]
        for other in (leads[:-1], leads[:3], [], leads + [None], leads + [4], [None] + leads, leads[1:]):
            self.spoilt(leads=other)

    def test_an_old_row_twice_or_never(self):
        for leads in ([0, 1, None, 2, None], [0, 1, None, None, 3], [0, None, None, 2, 3], [None, 1, None, 2, 3],
                      [0, 1, 2, 2, 3], [0, 1, 3, 2, 3], [0, 1, 0, 2, 3], [0, 1, 4, 2, 3], [0, 1, -1, 2, 3],
                      [0, 1, None, 2, 4], [-1, 1, None, 2, 3], [None] * 5, [0, 1, None, 3, 2], [1, 0, None, 2, 3],
                      [0, 1, None, 2, -1], [0, 1, 10**30, 2, 3]):
            self.spoilt(leads=leads)

    def test_numbers_of_leads_that_are_none(self):
        for thing in (True, False, "0", "", "-", 0.0, 1.0, (0,), [0], {}):
            for n in range(5):
                leads = list(self.paper["leads"])
                leads[n] = thing
                self.spoilt(leads=leads)

    def test_forms(self):
        self.assertEqual(self.paper["forms"], [1, 0, 0, 0])
        for forms in ([0, 0, 0, 0], [1, 1, 0, 0], [1, 0, 1, 0], [1, 0, 0, 1], [2, 0, 0, 0], [-1, 0, 0, 0],
                      [1, 0, 0], [1, 0, 0, 0, 0], [], [True, 0, 0, 0], [1, False, 0, 0], [1, 0, 0, False],
                      [1, None, 0, 0], [1, 0, 0, None], [1.0, 0, 0, 0], [1, 0, 0, 0.0], ["1", 0, 0, 0], (1, 0, 0, 0),
                      None, "1000", {0: 1, 1: 0, 2: 0, 3: 0}, [[1], 0, 0, 0]):
            self.spoilt(forms=forms)

    def test_free(self):
        self.assertEqual(self.paper["free"], [()] * 4)
        for free in ([()] * 3, [()] * 5, [], None, ((),) * 4, [(), (), (), (0,)], [(3,), (), (), ()], [(), (), (7,), ()],
                     [[], (), (), ()], [(8,), (), (), ()], [(True,), (), (), ()], "", {}):
            self.spoilt(free=free)

    def test_another_word_or_part(self):
        old = [("set", 1, 2), ("more", 1, 2), ("copy", 1, 2), ("keep", 1, 2), ("tell", 1), ("see", 1, 2), ("put", 1, 2),
               ("take", 1, 2), ("zero", 1, 9, 0), ("below", 1, 9, 0), ("call", 9, 0), ("mark", 9, 0),
               ("table", 1, (9, 9)), ("halt", 4), ("jump", 9, 0), ("back",), STOP]
        paper = paper_of(old, range(len(old)))
        self.let_by(old, old, paper)
        others = {
            0: (("set", 2, 2), ("set", 1, 3), ("more", 1, 2)), 1: (("more", 0, 2), ("more", 1, -2), ("set", 1, 2)),
            2: (("copy", 2, 1), ("copy", 1, 1), ("add", 1, 2), ("less", 1, 2), ("load", 1, 2)),
            3: (("keep", 2, 1), ("copy", 1, 2)), 4: (("tell", 2), ("see", 1, 2)),
            5: (("see", 1, 3), ("see", 2, 2), ("put", 1, 2)), 6: (("put", 1, 3), ("put", 2, 2), ("take", 1, 2)),
            7: (("take", 1, 3), ("take", 2, 2), ("see", 1, 2)), 8: (("zero", 2, 9, 0), ("below", 1, 9, 0)),
            9: (("below", 2, 9, 0), ("zero", 1, 9, 0)), 10: (("mark", 9, 0),), 11: (("call", 9, 0),),
            12: (("table", 2, (9, 9)), ("table", 1, (9,)), ("table", 1, (9, 9, 9)), ("zero", 1, 9, 0)),
            13: (("halt", 5), STOP), 14: (("call", 9, 0),), 15: (STOP, ("halt", 0)), 16: (("back",), ("halt", 0)),
        }
        for n, rows in others.items():
            for row in rows:
                self.refused(old, old[:n] + [row] + old[n + 1:], paper)
        self.assertEqual(len(others), len(old))


class RowsPutIn(Case):
    def test_each_word_that_may_be(self):
        for row in (("see", 0, 1), ("put", 0, 1), ("jump", 2, 0), ("jump", 2, 1), ("zero", 0, 2, 0), ("below", 7, 2, 1),
                    ("halt", 0), ("copy", 3, 3)):
            self.good(row)
        for row in (("set", 3, 1), ("more", 3, 1), ("copy", 3, 1), ("add", 3, 1), ("less", 3, 1), ("take", 3, 1)):
            self.good(row, free=(3,))
            self.bad(row)
            self.bad(row, free=(1,))

    def test_each_word_that_may_not_be(self):
        for row in (STOP, ("back",), ("load", 3, 3), ("keep", 3, 3), ("tell", 3), ("call", 2, 0), ("mark", 2, 0),
                    ("table", 3, (2, 2))):
            self.bad(row, free=(3,))
            # Also where nothing ever comes to it.
            self.refused_by_both([STOP], [STOP, row, ("halt", 1), STOP], paper_of([STOP], [0, None, None, None]))
        for row in (("see", 3, 1), ("halt", 4), ("set", 3, 4), ("jump", 1, 0)):
            self.let_by([STOP], [STOP, row, ("halt", 1)], paper_of([STOP], [0, None, None]))

    def test_asides_that_old_rows_name(self):
        for old_row in (("put", 4, 9), ("take", 4, 9)):
            old = [old_row, ("set", 5, 1), STOP]
            paper = paper_of(old, [0, None, 1, 2], [(), (5,), ()])
            self.let_by(old, [old_row, ("take", 5, 9), ("set", 5, 1), STOP], paper)
            self.let_by(old, [old_row, ("take", 5, 8), ("set", 5, 1), STOP], paper)
            self.let_by(old, [old_row, ("put", 5, 8), ("set", 5, 1), STOP], paper)
            self.let_by(old, [old_row, ("put", 5, 10), ("set", 5, 1), STOP], paper)
            self.refused_by_both(old, [old_row, ("put", 5, 9), ("set", 5, 1), STOP], paper)
            self.refused_by_both(old, [old_row, ("put", 0, 9), ("set", 5, 1), STOP], paper)
            self.refused_by_both(old, [old_row, ("set", 5, 1), STOP, ("put", 0, 9), ("halt", 1)],
                                 paper_of(old, [0, 1, 2, None, None]))

    def test_numbers_that_are_no_asides(self):
        # The 9 of these is no aside's number.
        for row in (("see", 4, 9), ("set", 4, 9), ("halt", 9), ("more", 4, 9)):
            old = [("zero", 0, 2, 0), row, STOP]
            self.let_by(old, [("zero", 0, 3, 0), ("put", 0, 9), row, STOP], paper_of(old, [0, None, 1, 2]))


class Walks(Case):
    def test_the_beginning(self):
        old = [("tell", 0), STOP]
        self.let_by(old, [("see", 0, 1)] + old, paper_of(old, [None, 0, 1]))
        self.let_by(old, [("jump", 2, 0), STOP, ("tell", 0), ("jump", 1, 0)], paper_of(old, [None, 1, 0, None]))
        self.refused_by_both(old, [("jump", 2, 0), ("tell", 0), STOP], paper_of(old, [None, 0, 1]))
        self.refused_by_both([STOP, STOP], [STOP, STOP], paper_of([STOP, STOP], [1, 0]))
        self.refused_by_both(old, [("set", 3, 1)] + old, paper_of(old, [None, 0, 1]))
        self.refused_by_both(old, [("jump", 0, 0)] + old, paper_of(old, [None, 0, 1]))
        self.let_by(old, [("halt", 1)] + old, paper_of(old, [None, 0, 1]))

    def test_going_on(self):
        for row in (("tell", 0), ("zero", 0, 1, 0), ("table", 0, (1,)), ("call", 1, 0), ("mark", 1, 0)):
            old = [row, ("tell", 1), STOP]
            moved = row[:-2] + (2, 0) if row[0] in JUMPING else ("table", 0, (2,)) if row[0] == "table" else row
            for ahead in (("see", 0, 1), ("jump", 2, 0), ("zero", 4, 2, 0), ("halt", 4)):
                self.let_by(old, [moved, ahead, ("tell", 1), STOP], paper_of(old, [0, None, 1, 2]))
            for ahead in (("jump", 3, 0), ("jump", 0, 0), ("jump", 1, 0), ("zero", 4, 3, 0), ("below", 4, 0, 0)):
                self.refused_by_both(old, [moved, ahead, ("tell", 1), STOP], paper_of(old, [0, None, 1, 2]))

    def test_targets(self):
        # Old row 3 leads to row 1; in the new rows the target is a row put in, behind the last old one.
        for row in (("jump", 1, 0), ("zero", 0, 1, 0), ("below", 0, 1, 1), ("call", 1, 0), ("mark", 1, 1),
                    ("table", 5, (1,))):
            old = [("tell", 0), ("tell", 1), ("tell", 2), row, STOP]
            moved = ("table", 5, (5,)) if row[0] == "table" else row[:-2] + (5, 0)
            new = old[:3] + [moved, STOP]
            leads = [0, 1, 2, 3, 4]
            for tail in ([("jump", 1, 0)], [("see", 0, 1), ("jump", 1, 0)], [("zero", 0, 1, 0), ("jump", 1, 0)],
                         [("halt", 3)], [("below", 0, 7, 0), ("jump", 1, 0), ("halt", 5)]):
                self.let_by(old, new + tail, paper_of(old, leads + [None] * len(tail)))
            for tail in ([("jump", 0, 0)], [("jump", 2, 0)], [("jump", 4, 0)], [("jump", 5, 0)],
                         [("zero", 0, 2, 0), ("jump", 1, 0)], [("zero", 0, 5, 0), ("jump", 1, 0)],
                         [("see", 0, 1), ("jump", 5, 0)], [("jump", 7, 0), ("halt", 3), ("jump", 3, 0)]):
                self.refused_by_both(old, new + tail, paper_of(old, leads + [None] * len(tail)))
            if row[0] != "table":
                self.refused_by_both(old, old[:3] + [row[:-2] + (2, 0), STOP], paper_of(old, leads))

    def test_each_target_of_a_table_by_itself(self):
        old = [("table", 0, (1, 2, 1, 3)), ("tell", 1), ("tell", 2), STOP]
        self.let_by(old, old + [("jump", 1, 0)], paper_of(old, [0, 1, 2, 3, None]))
        for targets in ((4, 2, 1, 3), (1, 2, 4, 3), (4, 2, 4, 3)):
            self.let_by(old, [("table", 0, targets)] + old[1:] + [("jump", 1, 0)], paper_of(old, [0, 1, 2, 3, None]))
        for targets in ((1, 4, 1, 3), (1, 2, 1, 4), (2, 1, 1, 3), (1, 2, 3, 1), (1, 2, 1, 1), (2, 2, 1, 3)):
            self.refused_by_both(old, [("table", 0, targets)] + old[1:] + [("jump", 1, 0)],
                                 paper_of(old, [0, 1, 2, 3, None]))

    def test_loops(self):
        self.bad(("jump", 1, 0))
        self.bad(("zero", 0, 1, 0))
        self.bad(("see", 0, 1), ("jump", 1, 0))
        self.bad(("see", 0, 1), ("zero", 0, 1, 0), ("see", 0, 1))
        self.bad(("zero", 0, 3, 0), ("jump", 2, 0))
        # A loop to which no walk comes.
        self.good(("jump", 3, 0), ("jump", 2, 0))

    def test_two_branches_to_one_row(self):
        self.good(("zero", 0, 2, 0))
        self.good(("zero", 0, 2, 0), ("see", 0, 1))
        self.good(("zero", 0, 3, 0), ("see", 0, 1), ("see", 0, 2))
        self.good(("below", 0, 3, 0), ("halt", 1), ("see", 0, 2))

    def test_walks_that_end_in_halts(self):
        self.good(("halt", 1))
        self.good(("zero", 0, 3, 0), ("halt", 1), ("halt", 2))
        self.good(("set", 0, 1), ("halt", 1))
        self.good(("zero", 0, 4, 0), ("set", 3, 3), ("halt", 1), ("see", 0, 1))
        self.bad(("zero", 0, 4, 0), ("halt", 1), ("halt", 2), ("set", 3, 1))

    def test_a_row_that_stands_for_another(self):
        old = [("zero", 0, 3, 0), ("tell", 1), STOP, ("tell", 1), STOP]
        self.let_by(old, old, paper_of(old, range(5)))
        # Both targets hold the same words, but each stands for its own row.
        self.refused_by_both(old, [("zero", 0, 1, 0)] + old[1:], paper_of(old, range(5)))


class Held(Case):
    def test_changed_and_not_brought_back(self):
        for row in (("set", 3, 1), ("more", 3, 0), ("add", 3, 2), ("less", 3, 2), ("copy", 3, 2), ("take", 3, 5)):
            self.bad(row)
            self.good(row, free=(3,))
            self.bad(row, free=(2,))
            self.bad(row, ("more", 3, 0))

    def test_brought_back_by_copy_through_a_free_box(self):
        save, back = ("copy", 4, 3), ("copy", 3, 4)
        self.good(save, ("set", 3, 1), back, free=(4,))
        self.good(save, ("more", 3, 1), ("see", 3, 1), back, free=(4,))
        self.bad(save, ("set", 3, 1), back)
        self.bad(("set", 3, 1), back, free=(4,))
        self.bad(save, ("set", 3, 1), ("more", 4, 0), back, free=(4,))
        self.bad(save, ("set", 3, 1), ("copy", 3, 5), free=(4,))
        self.good(save, ("set", 3, 1), ("copy", 5, 4), ("set", 4, 1), ("copy", 3, 5), free=(4, 5))
        self.bad(("set", 3, 1), save, back, free=(4,))

    def test_brought_back_by_put_and_take(self):
        self.good(("put", 3, 1), ("set", 3, 1), ("take", 3, 1))
        self.bad(("put", 3, 1), ("set", 3, 1), ("take", 3, 2))
        self.bad(("set", 3, 1), ("put", 3, 1), ("take", 3, 1))
        self.bad(("put", 3, 1), ("set", 3, 1), ("put", 3, 1), ("take", 3, 1))
        self.bad(("put", 3, 1), ("set", 3, 1), ("take", 4, 1))
        self.good(("put", 3, 1), ("set", 3, 1), ("take", 4, 1), ("copy", 3, 4), free=(4,))
        self.good(("put", 3, 1), ("put", 4, 2), ("copy", 3, 4), ("take", 4, 1), ("take", 3, 1), ("take", 4, 2))
        self.bad(("put", 3, 1), ("put", 4, 2), ("take", 3, 2), ("take", 4, 1))
        self.bad(("put", 3, 1), ("put", 4, 1), ("set", 3, 0), ("take", 3, 1))
        self.good(("put", 3, 0), ("set", 3, 1), ("put", 3, 10**6), ("take", 3, 0))

    def test_a_box_that_is_exchanged(self):
        # The numbers of two boxes, exchanged twice through a third.
        once = [("copy", 5, 3), ("copy", 3, 4), ("copy", 4, 5)]
        self.bad(*once, free=(5,))
        self.good(*once, *once, free=(5,))
        self.bad(*once, *once)

    def test_adding_and_taking_off_is_something_else(self):
        self.bad(("more", 3, 1), ("more", 3, -1))
        self.bad(("more", 3, 0))
        self.bad(("set", 4, 0), ("add", 3, 4), free=(4,))

    def test_copies_of_itself(self):
        self.good(("copy", 3, 3))
        self.bad(("set", 3, 1), ("copy", 3, 3))

    def test_each_branch(self):
        self.bad(("zero", 0, 3, 0), ("set", 3, 1))
        self.bad(("zero", 0, 3, 0), ("jump", 4, 0), ("set", 3, 1))
        self.good(("zero", 0, 4, 0), ("set", 3, 1), ("jump", 5, 0), ("see", 0, 1), free=(3,))
        self.good(("put", 3, 1), ("zero", 0, 4, 0), ("set", 3, 1), ("take", 3, 1))
        self.bad(("zero", 0, 3, 0), ("put", 3, 1), ("set", 3, 1), ("take", 3, 1))
        self.good(("put", 3, 1), ("below", 0, 5, 0), ("set", 3, 1), ("jump", 6, 0), ("more", 3, 1), ("take", 3, 1))

    def test_an_aside_put_on_another_branch_is_something_else(self):
        putting, taking = [("put", 3, 9), ("jump", 6, 0)], [("set", 3, 1), ("take", 3, 9)]
        self.bad(("zero", 0, 4, 0), *putting, *taking)
        self.bad(("zero", 0, 4, 0), *taking, *putting)
        self.good(("put", 3, 9), ("zero", 0, 5, 0), *[("put", 3, 8), ("jump", 7, 0)], *taking)
        # A box that is changed on one branch holds its number on the other.
        self.good(("put", 3, 9), ("zero", 0, 5, 0), *taking, ("see", 3, 1), ("see", 3, 2))
        self.bad(("zero", 0, 3, 0), ("set", 3, 1), ("see", 3, 1))

    def test_an_aside_put_on_another_walk_is_something_else(self):
        old = [("tell", 0), ("tell", 1), STOP]
        new = [("tell", 0), ("put", 3, 1), ("tell", 1), ("take", 3, 1), STOP]
        self.refused_by_both(old, new, paper_of(old, [0, None, 1, None, 2]))

    def test_free_at_the_row_that_is_come_to(self):
        # Box 3 is free ahead of row 1, not ahead of row 2.
        old = [("zero", 0, 2, 0), ("set", 3, 1), ("tell", 3), STOP]
        free = [(), (3,), (), ()]
        self.let_by(old, [("zero", 0, 3, 0), ("set", 3, 9), ("set", 3, 1), ("tell", 3), STOP],
                    paper_of(old, [0, None, 1, 2, 3], free))
        self.refused_by_both(old, [("zero", 0, 3, 0), ("set", 3, 9), ("set", 3, 1), ("tell", 3), STOP],
                             paper_of(old, [0, None, 1, 2, 3]))
        self.refused_by_both(old, [("zero", 0, 4, 0), ("set", 3, 1), ("tell", 3), STOP, ("set", 3, 9), ("jump", 2, 0)],
                             paper_of(old, [0, 1, 2, 3, None, None], free))

    def test_all_eight_boxes(self):
        for box in ALL:
            self.bad(("set", box, 1))
            self.good(("put", box, 1), ("set", box, 1), ("take", box, 1))
            self.bad(*[("set", b, 1) for b in ALL if b != box], free=(box,))
            self.good(*[("set", b, 1) for b in ALL], free=ALL)


class TooLong(Case):
    def test_a_straight_walk(self):
        for row in (("see", 0, 1), ("copy", 0, 0), ("jump", None, 0), ("zero", 3, None, 1)):
            for count, error in ((1999, None), (2000, None), (2001, TooMuch), (2500, TooMuch)):
                rows = [tuple(n + 2 if part is None else part for part in row) for n in range(count)]
                if row[0] == "zero":
                    rows = [("zero", 3, count + 1, 1)] * (count - 1) + [("see", 0, 1)]
                old, new, paper = self.put_ahead(rows)
                if error is None:
                    self.assertIsNone(check_paper(old, new, paper))
                else:
                    self.refused(old, new, paper, error)

    def test_from_each_way(self):
        for count, error in ((2000, None), (2001, TooMuch)):
            body = [("see", 0, 1)] * count
            cases = [([STOP], body + [STOP], [None] * count + [0])]
            for row in (("call", 0, 0), ("mark", 0, 0), ("zero", 0, 0, 0), ("table", 0, (0,))):
                cases.append(([row, STOP], [row] + body + [STOP], [0] + [None] * count + [1]))
            back = body[:-1] + [("jump", 0, 1)]
            for row in (("jump", 1, 0), ("call", 2, 0), ("mark", 2, 0), ("below", 0, 2, 0)):
                old = [row[:-2] + (0, 0), STOP]
                cases.append((old, [row[:-2] + (2, 0), STOP] + back, [0, 1] + [None] * count))
            old = [("table", 0, (1, 0, 1)), STOP]
            cases.append((old, [("table", 0, (1, 2, 1)), STOP] + back, [0, 1] + [None] * count))
            for old, new, leads in cases:
                if error is None:
                    self.assertIsNone(check_paper(old, new, paper_of(old, leads)))
                else:
                    self.refused(old, new, paper_of(old, leads), error)

    def test_halts_count(self):
        for count, error in ((1999, None), (2000, TooMuch)):
            old, new, paper = self.put_ahead([("see", 0, 1)] * count + [("halt", 1)])
            if error is None:
                self.assertIsNone(check_paper(old, new, paper))
            else:
                self.refused(old, new, paper, error)
        # Each guard's halt by itself: 2 rows each.
        for count, error in ((1000, None), (1001, TooMuch)):
            rows = [("below", 0, count + 2, 1)] * count
            old = [("tell", 0), STOP]
            new = [("tell", 0)] + rows + [STOP, ("halt", 3)]
            paper = paper_of(old, [0] + [None] * count + [1, None])
            if error is None:
                self.assertIsNone(check_paper(old, new, paper))
            else:
                self.refused(old, new, paper, error)

    def test_branches_count_each(self):
        # Each row doubles the roads, though both branches are one row: 1, 2, 4 .. so 2**k - 1 rows.
        for count, error in ((9, None), (10, None), (11, TooMuch), (40, TooMuch)):
            rows = [("zero", 0, n + 2, 0) for n in range(count)]
            old, new, paper = self.put_ahead(rows)
            if error is None:
                self.let_by(old, new, paper)
            else:
                self.refused_by_both(old, new, paper, error)

    def test_just_2000_by_branches(self):
        # Nine doublings are 511 rows and 512 roads, so the two rows behind them count 1024 times; 465 stand ahead.
        for ahead, error in ((465, None), (466, TooMuch)):
            rows = [("see", 0, 1)] * ahead + [("zero", 0, ahead + n + 2, 0) for n in range(9)] + [("see", 0, 1)] * 2
            old, new, paper = self.put_ahead(rows)
            if error is None:
                self.let_by(old, new, paper)
            else:
                self.refused_by_both(old, new, paper, error)

    def test_ahead_of_what_does_not_hold(self):
        body = [("see", 0, 1)] * 2001
        # The walk comes to a wrong row, into a loop, or leaves a box changed: it is too long all the same.
        for tail in ([("jump", 0, 1)], [("jump", 1, 1)], [("set", 3, 1)], [("see", 0, 1)]):
            self.refused(*self.put_ahead(body + tail), TooMuch)
        # Another way, ahead of the long one, is wrong.
        old = [("tell", 0), ("tell", 1), STOP]
        new = [("tell", 0), ("set", 3, 1), ("tell", 1)] + body + [STOP]
        self.refused(old, new, paper_of(old, [0, None, 1] + [None] * 2001 + [2]), TooMuch)
        new = [("tell", 0), ("jump", 0, 1), ("tell", 1)] + body + [STOP]
        self.refused(old, new, paper_of(old, [0, None, 1] + [None] * 2001 + [2]), TooMuch)

    def test_behind_what_is_looked_at_first(self):
        body = [("see", 0, 1)] * 2001
        old, new, paper = self.put_ahead(body)
        self.refused(old, new, paper, TooMuch)
        self.refused(old, new, dict(paper, forms=[0, True]))
        self.refused(old, new, dict(paper, forms=[0, 1]))
        self.refused(old, new, dict(paper, free=[(), (1,)]))
        self.refused(old, new, dict(paper, leads=paper["leads"][:-1]))
        self.refused(old, new, dict(paper, leads=paper["leads"][:-1] + [0]))
        self.refused(*self.put_ahead(body + [("tell", 0)]))
        self.refused(old, [("tell", 1)] + new[1:], paper)

    def test_loops_end_a_branch_and_do_not_count_again(self):
        # A loop of so many rows, come to once: not too many, but no walk.
        for count, error in ((1999, NoPaper), (2000, NoPaper), (2001, TooMuch)):
            old, new, paper = self.put_ahead([("see", 0, 1)] * (count - 1) + [("jump", 1, 1)])
            self.refused(old, new, paper, error)
        # Each zero leads back to the first row too, which ends that branch and counts nothing.
        for count, error in ((1999, NoPaper), (2000, NoPaper), (2001, TooMuch)):
            old, new, paper = self.put_ahead([("see", 0, 1)] + [("zero", 0, 1, 1)] * (count - 1))
            self.refused(old, new, paper, error)

    def test_walks_of_several_ways_are_not_added(self):
        body = [("see", 0, 1)] * 1300
        old = [("tell", 0), ("tell", 1), ("tell", 2), STOP]
        new = [("tell", 0)] + body + [("tell", 1)] + body + [("tell", 2)] + body + [STOP]
        leads = [0] + [None] * 1300 + [1] + [None] * 1300 + [2] + [None] * 1300 + [3]
        self.assertIsNone(check_paper(old, new, paper_of(old, leads)))

    def test_rows_to_which_no_walk_comes_do_not_count(self):
        new = [STOP] + [("see", 0, 1)] * 3000 + [("halt", 1)]
        self.assertIsNone(check_paper([STOP], new, paper_of([STOP], [0] + [None] * 3001)))


class AnyPaper(Case):
    """Whatever is let by, whoever made it: the run stays the same."""

    def random_put_in(self, draw, how_many, old):
        word = draw.choice(("put", "take", "copy", "set", "more", "zero", "below", "jump", "see", "halt", "add"))
        box, far = draw.randrange(8), draw.randrange(2)
        if word in ("zero", "below"):
            return (word, box, draw.randrange(how_many), far)
        if word == "jump":
            return (word, draw.randrange(how_many), far)
        if word in ("put", "take"):
            return (word, box, draw.choice((5, 6, 0)))
        if word in ("copy", "add"):
            return (word, box, draw.randrange(8))
        return (word, draw.randrange(9)) if word == "halt" else (word, box, draw.randrange(3))

    def snippet(self, draw, free):
        """Rows put in that are likely to be right: saved and brought back, or over free boxes."""
        box = draw.randrange(8)
        deed = draw.choice((("set", box, -3), ("more", box, 5), ("copy", box, (box + 1) % 8), ("take", box, 7)))
        kinds = [[("see", box, 4)], [("put", box, 5), deed, ("take", box, 5)], [("copy", box, box)],
                 [("put", box, 6), deed, ("see", box, 1), ("take", box, 6)]]
        if free:
            one = draw.choice(free)
            kinds += [[("set", one, -7)], [("copy", one, box), deed, ("copy", box, one)], [("take", one, 0)]] * 2
        return draw.choice(kinds)

    def made_by_hand(self, draw, old):
        """Old rows with snippets ahead of each, every target led through a stub now and then; then perhaps spoilt."""
        free = free_boxes(old)
        new, leads, begins, ends = [], [], [], []
        for r, row in enumerate(old):
            begins.append(len(new))
            if draw.random() < 0.5:
                rows = self.snippet(draw, free[r])
                new += rows
                leads += [None] * len(rows)
            ends.append(len(new))
            new.append(row)
            leads.append(r)
        stubs = []
        for n, row in enumerate(list(new)):
            if leads[n] is not None:
                targets = []
                for target in targets_of(row):
                    if draw.random() < 0.3:
                        targets.append(len(new) + len(stubs))
                        stubs += self.snippet(draw, free[target]) + [("jump", draw.choice((begins, ends))[target], 1)]
                    else:
                        targets.append(draw.choice((begins, ends))[target])
                if row[0] == "table":
                    new[n] = row[:2] + (tuple(targets),)
                elif targets:
                    new[n] = row[:-2] + (targets[0], 1)
        return new + stubs, paper_of(old, leads + [None] * len(stubs), free)

    def spoilt(self, draw, old, new, paper):
        n = draw.randrange(len(new))
        new, paper = list(new), copy.deepcopy(paper)
        if paper["leads"][n] is None and draw.random() < 0.7:
            new[n] = self.random_put_in(draw, len(new), old)
        elif targets_of(new[n]):
            target = draw.randrange(len(new))
            new[n] = row_with_target(new[n], target)
        else:
            paper["free"] = [tuple(box for box in boxes if draw.random() < 0.8) for boxes in paper["free"]]
        return new, paper

    def same(self, draw, old, new, paper):
        boxes, cells, bells = random_beginning(draw)
        states = plain_run(old, boxes, cells, bells, 40)
        machine = Machine(new, boxes, cells, bells)
        stood = 0
        named = asides_named(old)
        while stood < 40:
            n = machine.row()
            lead = None if n is None else paper["leads"][n]
            if n is None or lead is not None:
                state = states[stood]
                if n is None and machine.ending() != state["ending"]:
                    # Then a halt that was put in ended it.
                    self.assertEqual(machine.ending()[0], "halt")
                    return
                self.assertEqual(lead, state["row"])
                free = () if n is None else paper["free"][lead]
                self.assertEqual([number for box, number in enumerate(machine.boxes()) if box not in free],
                                 [number for box, number in enumerate(state["boxes"]) if box not in free])
                self.assertEqual({aside: number for aside, number in machine.asides().items() if aside in named},
                                 state["asides"])
                self.assertEqual((machine.cells(), machine.told(), machine.deep(), machine.passed()),
                                 (state["cells"], state["told"], state["deep"], state["passed"]))
                stood += 1
            if n is None:
                return
            machine.step()

    def test_drawn(self):
        draw = random.Random(63)
        verdicts = {None: 0, NoPaper: 0}
        for k in range(2500):
            old = lively_program(draw, draw.randrange(1, 8))
            new, paper = self.made_by_hand(draw, old)
            for spoils in range(draw.choice((0, 0, 1, 1, 2))):
                new, paper = self.spoilt(draw, old, new, paper)
            try:
                check_rows(new)
            except RowError:
                continue
            expected = verdict(old, new, paper)
            verdicts[expected] = verdicts.get(expected, 0) + 1
            if expected is None:
                self.assertIsNone(check_paper(old, new, paper))
                for j in range(3):
                    self.same(draw, old, new, paper)
            else:
                self.refused(old, new, paper, expected)
        self.assertGreater(verdicts[None], 500)
        self.assertGreater(verdicts[NoPaper], 500)

    def test_put_in_rows_by_chance(self):
        draw = random.Random(64)
        verdicts = {}
        for k in range(4000):
            old = [random_row(draw, 3), random_row(draw, 3), STOP]
            count = draw.randrange(1, 5)
            rows = [self.random_put_in(draw, 3 + count, old) for n in range(count)]
            n = draw.randrange(3)
            moved = [row_moved(row, lambda target: target if target < n else target + count) for row in old]
            new = moved[:n] + rows + moved[n:]
            paper = paper_of(old, list(range(n)) + [None] * count + list(range(n, 3)), free_boxes(old))
            check_rows(new)
            expected = verdict(old, new, paper)
            verdicts[expected] = verdicts.get(expected, 0) + 1
            if expected is None:
                self.assertIsNone(check_paper(old, new, paper))
                self.same(draw, old, new, paper)
            else:
                self.refused(old, new, paper, expected)
        self.assertGreater(verdicts[None], 300)
        self.assertGreater(verdicts[NoPaper], 300)


def row_moved(row, place_of):
    if row[0] == "table":
        return row[:2] + (tuple(place_of(target) for target in row[2]),)
    return row[:-2] + (place_of(row[-2]), row[-1]) if row[0] in JUMPING else row


def row_with_target(row, target):
    if row[0] == "table":
        return row[:2] + ((target,) + row[2][1:],)
    return row[:-2] + (target, row[-1])


if __name__ == "__main__":
    unittest.main()

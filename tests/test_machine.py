import copy
import random
import unittest

from samples import STOP, plain_run, random_beginning, random_program, state_of
from widenrows.errors import Ended, RowError
from widenrows.layout import least_layout
from widenrows.machine import Machine
from widenrows.rows import check_rows

BOXES = [10, -11, 0, 13, 2, 5, -6, 1000]
CELLS = {13: 7, -11: 8, 0: 9, 5: 0}
NOUGHTS = [0] * 8


def made(rows, boxes=NOUGHTS, cells=(), bells=()):
    check_rows(rows)
    return Machine(rows, list(boxes), dict(cells), list(bells))


def with_box(box, number):
    boxes = list(BOXES)
    boxes[box] = number
    return boxes


class Case(unittest.TestCase):
    def state(self, machine, **parts):
        state = state_of(machine)
        for name, part in parts.items():
            self.assertEqual(state[name], part, name)

    def one_step(self, deed, **changed):
        """The row stands at 1, behind a jump to it; all that is not told to change stays."""
        machine = made([("jump", 1, 0), deed, STOP, STOP, STOP], BOXES, CELLS)
        self.assertIsNone(machine.step())
        before = state_of(machine)
        self.assertEqual(before["row"], 1)
        self.assertIsNone(machine.step())
        expected = dict(before, row=2)
        expected.update(changed)
        with self.subTest(deed=deed):
            self.assertEqual(state_of(machine), expected)

    def ends(self, machine, ending):
        self.state(machine, row=None, ending=ending)
        self.assertIs(type(machine.ending()), tuple)
        before = state_of(machine)
        for k in range(2):
            with self.assertRaises(Ended) as caught:
                machine.step()
            self.assertIsInstance(caught.exception, RowError)
            self.assertEqual(state_of(machine), before)
        self.assertEqual(machine.run(5), 0)
        self.assertEqual(machine.run(0), 0)
        self.assertEqual(state_of(machine), before)


class Beginning(Case):
    def test_all_that_is_told(self):
        machine = made([STOP], BOXES, CELLS, [0, 1])
        self.assertEqual(state_of(machine), {
            "row": 0, "ending": None, "boxes": BOXES, "cells": {13: 7, -11: 8, 0: 9}, "asides": {}, "told": [],
            "seen": [], "deep": 0, "passed": 0,
        })

    def test_the_empty_beginning(self):
        self.state(made([STOP]), boxes=[0] * 8, cells={}, asides={}, told=[], seen=[])

    def test_kinds(self):
        machine = made([("tell", 0), ("see", 0, 1), ("mark", 3, 0), STOP], BOXES, CELLS)
        machine.run(3)
        kinds = {name: type(part) for name, part in state_of(machine).items()}
        self.assertEqual(kinds, {"row": int, "ending": type(None), "boxes": list, "cells": dict, "asides": dict,
                                 "told": list, "seen": list, "deep": int, "passed": int})
        self.assertIs(type(machine.seen()[0]), tuple)
        self.assertIs(type(machine.run(3)), int)


class EachWord(Case):
    def test_set_and_more(self):
        self.one_step(("set", 0, 4), boxes=with_box(0, 4))
        self.one_step(("set", 7, -10**9), boxes=with_box(7, -10**9))
        self.one_step(("set", 3, 0), boxes=with_box(3, 0))
        self.one_step(("more", 0, 4), boxes=with_box(0, 14))
        self.one_step(("more", 1, 11), boxes=with_box(1, 0))
        self.one_step(("more", 7, -10**9), boxes=with_box(7, 1000 - 10**9))
        self.one_step(("more", 2, 0))

    def test_copy_add_less(self):
        self.one_step(("copy", 0, 1), boxes=with_box(0, -11))
        self.one_step(("copy", 1, 0), boxes=with_box(1, 10))
        self.one_step(("copy", 3, 3))
        self.one_step(("add", 0, 1), boxes=with_box(0, -1))
        self.one_step(("add", 1, 0), boxes=with_box(1, -1))
        self.one_step(("add", 3, 3), boxes=with_box(3, 26))
        self.one_step(("less", 0, 1), boxes=with_box(0, 21))
        self.one_step(("less", 1, 0), boxes=with_box(1, -21))
        self.one_step(("less", 3, 3), boxes=with_box(3, 0))

    def test_load(self):
        self.one_step(("load", 0, 3), boxes=with_box(0, 7))
        self.one_step(("load", 0, 1), boxes=with_box(0, 8))
        self.one_step(("load", 0, 2), boxes=with_box(0, 9))
        self.one_step(("load", 0, 5), boxes=with_box(0, 0))
        self.one_step(("load", 0, 7), boxes=with_box(0, 0))
        self.one_step(("load", 3, 3), boxes=with_box(3, 7))

    def test_keep(self):
        self.one_step(("keep", 0, 3), cells={13: 7, -11: 8, 0: 9, 10: 13})
        self.one_step(("keep", 3, 0), cells={13: 10, -11: 8, 0: 9})
        self.one_step(("keep", 1, 6), cells={13: 7, -11: -6, 0: 9})
        self.one_step(("keep", 2, 2), cells={13: 7, -11: 8})
        self.one_step(("keep", 7, 2))
        self.one_step(("keep", 5, 5), cells={13: 7, -11: 8, 0: 9, 5: 5})

    def test_tell_and_see(self):
        self.one_step(("tell", 0), told=[10])
        self.one_step(("tell", 2), told=[0])
        self.one_step(("see", 1, 0), seen=[(0, -11)])
        self.one_step(("see", 2, 10**6), seen=[(10**6, 0)])

    def test_put_and_take(self):
        self.one_step(("put", 0, 7), asides={7: 10})
        self.one_step(("put", 1, 0), asides={0: -11})
        self.one_step(("put", 2, 10**6))
        self.one_step(("take", 0, 7), boxes=with_box(0, 0))
        self.one_step(("take", 2, 0))

    def test_jump(self):
        for far in (0, 1):
            self.one_step(("jump", 0, far), row=0)
            self.one_step(("jump", 1, far), row=1)
            self.one_step(("jump", 2, far), row=2)
            self.one_step(("jump", 4, far), row=4)

    def test_zero(self):
        for far in (0, 1):
            self.one_step(("zero", 2, 4, far), row=4)
            self.one_step(("zero", 2, 0, far), row=0)
            self.one_step(("zero", 0, 4, far), row=2)
            self.one_step(("zero", 1, 4, far), row=2)

    def test_below(self):
        for far in (0, 1):
            self.one_step(("below", 1, 4, far), row=4)
            self.one_step(("below", 6, 0, far), row=0)
            self.one_step(("below", 2, 4, far), row=2)
            self.one_step(("below", 0, 4, far), row=2)
        machine = made([("below", 0, 2, 0), STOP, STOP], [-1] + [0] * 7)
        machine.step()
        self.state(machine, row=2)

    def test_call_and_mark(self):
        for far in (0, 1):
            self.one_step(("call", 4, far), row=4, deep=1)
            self.one_step(("call", 1, far), row=1, deep=1)
            self.one_step(("mark", 4, far), row=2, passed=1)

    def test_ends(self):
        self.one_step(("stop",), row=None, ending=("stop",))
        self.one_step(("halt", 0), row=None, ending=("halt", 0))
        self.one_step(("halt", 10**6), row=None, ending=("halt", 10**6))
        self.one_step(("back",), row=None, ending=("home",))


class Tables(Case):
    def stands_at(self, count, number, row):
        rows = [("table", 3, tuple(range(2, 2 + count)))] + [STOP] * (count + 2)
        boxes = [9, 9, 9, number, 9, 9, 9, 9]
        machine = made(rows, boxes)
        machine.step()
        self.state(machine, row=row, boxes=boxes, deep=0)

    def test_within(self):
        for count in (1, 2, 16):
            for number in range(count):
                self.stands_at(count, number, 2 + number)

    def test_below_and_beyond(self):
        for count in (1, 2, 16):
            for number in (-10**20, -16, -2, -1, count, count + 1, 10**20):
                self.stands_at(count, number, 1)

    def test_targets_back_and_alike(self):
        rows = [("jump", 2, 0), STOP, ("table", 0, (1, 2, 0, 1)), STOP]
        for number, row in ((0, 1), (1, 2), (2, 0), (3, 1), (4, 3)):
            machine = made(rows, [number] + [0] * 7)
            machine.run(2)
            self.state(machine, row=row)


class Calls(Case):
    def test_home_is_behind_the_call(self):
        machine = made([("call", 2, 0), STOP, ("tell", 0), ("back",)], [5] + [0] * 7)
        rows = []
        while machine.row() is not None:
            rows.append((machine.row(), machine.deep()))
            machine.step()
        self.assertEqual(rows, [(0, 0), (2, 1), (3, 1), (1, 0)])
        self.ends(machine, ("stop",))
        self.state(machine, told=[5], deep=0)

    def test_calls_within_calls(self):
        rows = [("call", 3, 0), ("tell", 0), STOP, ("call", 6, 1), ("tell", 1), ("back",), ("call", 9, 0), ("tell", 2),
                ("back",), ("tell", 3), ("back",)]
        machine = made(rows, [1, 2, 3, 4, 0, 0, 0, 0])
        visited = []
        while machine.row() is not None:
            visited.append((machine.row(), machine.deep()))
            machine.step()
        self.assertEqual(visited, [(0, 0), (3, 1), (6, 2), (9, 3), (10, 3), (7, 2), (8, 2), (4, 1), (5, 1), (1, 0),
                                   (2, 0)])
        self.state(machine, told=[4, 3, 2, 1], ending=("stop",))

    def test_a_row_that_calls_itself_deep_down(self):
        rows = [("zero", 0, 3, 0), ("more", 0, -1), ("call", 0, 0), ("more", 1, 1), ("back",)]
        machine = made(rows, [3000] + [0] * 7)
        self.assertEqual(machine.run(9001), 9001)
        self.state(machine, deep=3000, row=3)
        self.assertEqual(machine.run(10**6), 6002)
        self.ends(machine, ("home",))
        self.state(machine, deep=0, boxes=[0, 3001, 0, 0, 0, 0, 0, 0])

    def test_back_with_an_empty_pile_once_all_came_home(self):
        machine = made([("call", 2, 0), ("back",), ("back",)])
        self.assertEqual(machine.run(10), 3)
        self.ends(machine, ("home",))

    def test_an_end_within_a_call_leaves_the_pile(self):
        for row, ending in ((STOP, ("stop",)), (("halt", 4), ("halt", 4))):
            machine = made([("call", 1, 0), ("call", 3, 0), STOP, row])
            self.assertEqual(machine.run(10), 3)
            self.ends(machine, ending)
            self.state(machine, deep=2)


class Bells(Case):
    # Four marks, each of which calls row 5 where it is rung; there box 0 grows.
    ROWS = [("mark", 5, 0), ("mark", 5, 1), ("mark", 5, 0), ("mark", 5, 0), STOP, ("more", 0, 1), ("tell", 0), ("back",)]

    def visited(self, bells):
        machine = made(self.ROWS, NOUGHTS, {}, bells)
        rows = []
        while machine.row() is not None:
            rows.append(machine.row())
            machine.step()
        self.ends(machine, ("stop",))
        self.state(machine, passed=4, deep=0)
        return rows

    def test_none(self):
        self.assertEqual(self.visited([]), [0, 1, 2, 3, 4])

    def test_each_alone(self):
        self.assertEqual(self.visited([0]), [0, 5, 6, 7, 1, 2, 3, 4])
        self.assertEqual(self.visited([1]), [0, 1, 5, 6, 7, 2, 3, 4])
        self.assertEqual(self.visited([3]), [0, 1, 2, 3, 5, 6, 7, 4])

    def test_in_any_order_and_some_twice(self):
        expected = [0, 5, 6, 7, 1, 2, 5, 6, 7, 3, 4]
        for bells in ([0, 2], [2, 0], [2, 0, 2], [0, 0, 2, 2, 0], [2, 99, 0, -1]):
            self.assertEqual(self.visited(bells), expected)

    def test_bells_that_no_mark_has(self):
        self.assertEqual(self.visited([-1, -2, 4, 10**30]), [0, 1, 2, 3, 4])

    def test_marks_are_numbered_as_they_are_done(self):
        # One mark, done again and again, and one within the called rows.
        rows = [("mark", 4, 0), ("more", 0, 1), ("zero", 1, 0, 0), STOP, ("mark", 6, 0), ("back",), ("tell", 0),
                ("back",)]
        machine = made(rows, NOUGHTS, {}, [3, 1, 4])
        visited = []
        for k in range(16):
            visited.append((machine.row(), machine.passed(), machine.deep()))
            machine.step()
        self.assertEqual(visited, [
            (0, 0, 0), (1, 1, 0), (2, 1, 0), (0, 1, 0), (4, 2, 1), (5, 3, 1), (1, 3, 0), (2, 3, 0), (0, 3, 0),
            (4, 4, 1), (6, 5, 2), (7, 5, 2), (5, 5, 1), (1, 5, 0), (2, 5, 0), (0, 5, 0),
        ])
        self.state(machine, told=[2])

    def test_calls_are_no_marks(self):
        machine = made([("call", 2, 0), STOP, ("mark", 3, 0), ("back",)], NOUGHTS, {}, [1])
        machine.run(10)
        self.state(machine, passed=1, ending=("stop",))


class Numbers(Case):
    def test_cells_that_become_0_again(self):
        rows = [("keep", 0, 1), ("less", 1, 1), ("keep", 0, 1), ("load", 2, 0), STOP]
        machine = made(rows, [4, 6, 8, 0, 0, 0, 0, 0])
        machine.step()
        self.state(machine, cells={4: 6})
        machine.run(2)
        self.state(machine, cells={})
        machine.step()
        self.state(machine, boxes=[4, 0, 0, 0, 0, 0, 0, 0])

    def test_handed_in_cells_that_become_0(self):
        machine = made([("keep", 0, 1), STOP], [4] + [0] * 7, {4: 3, 5: 0, 6: 1})
        self.state(machine, cells={4: 3, 6: 1})
        machine.step()
        self.state(machine, cells={6: 1})

    def test_asides_that_become_0_again(self):
        rows = [("put", 0, 9), ("put", 0, 0), ("set", 0, 0), ("put", 0, 9), ("take", 1, 9), ("take", 2, 0), STOP]
        machine = made(rows, [4, 6, 8, 0, 0, 0, 0, 0])
        machine.run(2)
        self.state(machine, asides={9: 4, 0: 4})
        machine.run(2)
        self.state(machine, asides={0: 4})
        machine.run(2)
        self.state(machine, boxes=[0, 0, 4, 0, 0, 0, 0, 0], asides={0: 4})

    def test_asides_are_no_cells(self):
        rows = [("put", 0, 1), ("keep", 0, 1), ("take", 2, 1), ("load", 3, 0), STOP]
        machine = made(rows, [1, 2, 0, 0, 0, 0, 0, 0])
        machine.run(4)
        self.state(machine, asides={1: 1}, cells={1: 2}, boxes=[1, 2, 1, 2, 0, 0, 0, 0])

    def test_numbers_grow_beyond_all_bounds(self):
        machine = made([("add", 0, 0)] * 200 + [("keep", 0, 0), ("tell", 0), STOP], [-3] + [0] * 7)
        machine.run(202)
        number = -3 * 2**200
        self.state(machine, told=[number], cells={number: number}, boxes=[number] + [0] * 7)

    def test_told_and_seen_in_order(self):
        rows = [("tell", 0), ("see", 1, 5), ("tell", 1), ("see", 0, 2), ("tell", 0), ("see", 1, 5), STOP]
        machine = made(rows, [7, -7] + [0] * 6)
        machine.run(10)
        self.state(machine, told=[7, -7, 7], seen=[(5, -7), (2, 7), (5, -7)])


class Runs(Case):
    # Box 0 counts down; 3 + 3 * box 0 steps in all.
    ROWS = [("zero", 0, 3, 0), ("more", 0, -1), ("jump", 0, 0), ("tell", 1), STOP]

    def test_no_step(self):
        machine = made(self.ROWS, [2] + [0] * 7)
        before = state_of(machine)
        self.assertEqual(machine.run(0), 0)
        self.assertEqual(state_of(machine), before)

    def test_fewer_just_as_many_and_more_than_it_takes(self):
        for most in range(9):
            machine = made(self.ROWS, [2] + [0] * 7)
            self.assertEqual(machine.run(most), most)
            self.assertIsNone(machine.ending())
            self.assertEqual(machine.run(100), 9 - most)
            self.ends(machine, ("stop",))
        for most in (9, 10, 10**30):
            machine = made(self.ROWS, [2] + [0] * 7)
            self.assertEqual(machine.run(most), 9)
            self.ends(machine, ("stop",))

    def test_the_last_step_counts(self):
        for row, ending in ((STOP, ("stop",)), (("halt", 3), ("halt", 3)), (("back",), ("home",))):
            machine = made([row])
            self.assertEqual(machine.run(5), 1)
            self.ends(machine, ending)

    def test_a_run_is_its_steps(self):
        draw = random.Random(15)
        for k in range(60):
            rows = random_program(draw, 12)
            one, other = made(rows, BOXES, CELLS, [0, 3]), made(rows, BOXES, CELLS, [0, 3])
            most = draw.randrange(40)
            done = one.run(most)
            for j in range(done):
                other.step()
            self.assertEqual(state_of(one), state_of(other))
            self.assertTrue(done == most or one.row() is None)

    def test_no_end(self):
        machine = made([("jump", 0, 0)])
        self.assertEqual(machine.run(20000), 20000)
        self.state(machine, row=0, ending=None)


class Drawn(Case):
    def test_each_state_of_drawn_programs(self):
        draw = random.Random(16)
        words = set()
        for k in range(400):
            rows = random_program(draw, draw.randrange(2, 25))
            boxes, cells, bells = random_beginning(draw)
            machine = made(rows, boxes, cells, bells)
            for state in plain_run(rows, boxes, cells, bells, 60):
                self.assertEqual(state_of(machine), state)
                if machine.row() is not None:
                    words.add(rows[machine.row()][0])
                    machine.step()
        self.assertEqual(len(words), 20)

    def test_far_changes_nothing(self):
        draw = random.Random(17)
        for k in range(60):
            rows = random_program(draw, 100)
            one, other = made(rows, BOXES, CELLS, [1, 2]), made(least_layout(rows), BOXES, CELLS, [1, 2])
            self.assertEqual(one.run(50), other.run(50))
            self.assertEqual(state_of(one), state_of(other))


class AskersOwn(Case):
    ROWS = [("keep", 0, 1), ("mark", 4, 0), ("tell", 0), STOP, ("table", 2, (5,)), ("put", 0, 3), ("see", 0, 1),
            ("back",)]

    def test_what_is_handed_in_stays(self):
        rows, boxes, cells, bells = list(self.ROWS), list(BOXES), dict(CELLS), [3, 0, 0]
        kept = copy.deepcopy((rows, boxes, cells, bells))
        machine = Machine(rows, boxes, cells, bells)
        machine.run(100)
        self.assertEqual(machine.ending(), ("stop",))
        with self.assertRaises(Ended):
            machine.step()
        self.assertEqual((rows, boxes, cells, bells), kept)

    def test_what_is_done_behind_the_call_changes_nothing(self):
        rows, boxes, cells, bells = list(self.ROWS), list(BOXES), dict(CELLS), [0]
        machine = Machine(rows, boxes, cells, bells)
        other = made(self.ROWS, BOXES, CELLS, [0])
        before = state_of(machine)
        for k in range(len(rows)):
            rows[k] = STOP
        rows.clear()
        boxes[0] = 77
        boxes.append(1)
        cells[0] = 5
        cells[99] = 5
        bells[0] = 1
        bells.append(2)
        self.assertEqual(state_of(machine), before)
        while other.row() is not None:
            machine.step()
            other.step()
            self.assertEqual(state_of(machine), state_of(other))
        self.state(machine, ending=("stop",), seen=[(1, 10)])

    def test_two_machines_of_the_same_things(self):
        rows, boxes, cells, bells = list(self.ROWS), list(BOXES), dict(CELLS), [0]
        one, other = Machine(rows, boxes, cells, bells), Machine(rows, boxes, cells, bells)
        before = state_of(other)
        one.run(100)
        self.assertEqual(state_of(other), before)

    def test_what_is_told_when_changed_changes_nothing(self):
        machine = made(self.ROWS, BOXES, CELLS, [0])
        while True:
            before = state_of(machine)
            told = state_of(machine)
            for name in ("boxes", "told", "seen"):
                told[name].append(5)
                told[name][0] = 99
            for name in ("cells", "asides"):
                told[name][0] = 99
                told[name][12345] = 99
                told[name].pop(13, None)
            self.assertEqual(state_of(machine), before)
            if machine.row() is None:
                break
            machine.step()
        self.state(machine, told=[10], seen=[(1, 10)], asides={3: 10})

    def test_what_was_told_stays_as_the_machine_goes_on(self):
        machine = made(self.ROWS, BOXES, CELLS, [0])
        states = []
        while machine.row() is not None:
            told = state_of(machine)
            states.append((told, copy.deepcopy(told)))
            machine.step()
        for told, kept in states:
            self.assertEqual(told, kept)

    def test_each_time_a_new_one(self):
        machine = made(self.ROWS, BOXES, CELLS, [0])
        for ask in (machine.boxes, machine.cells, machine.asides, machine.told, machine.seen):
            self.assertIsNot(ask(), ask())


if __name__ == "__main__":
    unittest.main()

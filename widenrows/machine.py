"""The machine that does rows."""

from widenrows.errors import Ended


def end(machine, how):
    machine.here = None
    machine.how_ended = how


def do_stop(machine, row):
    end(machine, ("stop",))


def do_halt(machine, row):
    end(machine, ("halt", row[1]))


def do_back(machine, row):
    if len(machine.pile) == 0:
        end(machine, ("home",))
    else:
        machine.here = machine.pile.pop()


def do_set(machine, row):
    machine.in_boxes[row[1]] = row[2]


def do_more(machine, row):
    machine.in_boxes[row[1]] = machine.in_boxes[row[1]] + row[2]


def do_copy(machine, row):
    machine.in_boxes[row[1]] = machine.in_boxes[row[2]]


def do_add(machine, row):
    machine.in_boxes[row[1]] = machine.in_boxes[row[1]] + machine.in_boxes[row[2]]


def do_less(machine, row):
    machine.in_boxes[row[1]] = machine.in_boxes[row[1]] - machine.in_boxes[row[2]]


def do_load(machine, row):
    machine.in_boxes[row[1]] = machine.in_cells.get(machine.in_boxes[row[2]], 0)


def do_keep(machine, row):
    machine.in_cells[machine.in_boxes[row[1]]] = machine.in_boxes[row[2]]


def do_tell(machine, row):
    machine.told_numbers.append(machine.in_boxes[row[1]])


def do_see(machine, row):
    machine.seen_numbers.append((row[2], machine.in_boxes[row[1]]))


def do_put(machine, row):
    machine.in_asides[row[2]] = machine.in_boxes[row[1]]


def do_take(machine, row):
    machine.in_boxes[row[1]] = machine.in_asides.get(row[2], 0)


def do_jump(machine, row):
    machine.here = row[1]


def do_zero(machine, row):
    if machine.in_boxes[row[1]] == 0:
        machine.here = row[2]


def do_below(machine, row):
    if machine.in_boxes[row[1]] < 0:
        machine.here = row[2]


def do_call(machine, row):
    machine.pile.append(machine.here)
    machine.here = row[1]


def do_mark(machine, row):
    number = machine.marks_done
    machine.marks_done = number + 1
    if number in machine.rung:
        do_call(machine, row)


def do_table(machine, row):
    k = machine.in_boxes[row[1]]
    if 0 <= k < len(row[2]):
        machine.here = row[2][k]


DEEDS = {
    "stop": do_stop,
    "back": do_back,
    "halt": do_halt,
    "set": do_set,
    "more": do_more,
    "copy": do_copy,
    "add": do_add,
    "less": do_less,
    "load": do_load,
    "keep": do_keep,
    "tell": do_tell,
    "see": do_see,
    "put": do_put,
    "take": do_take,
    "jump": do_jump,
    "zero": do_zero,
    "below": do_below,
    "call": do_call,
    "mark": do_mark,
    "table": do_table,
}


def without_noughts(numbers):
    others = {}
    for place, number in numbers.items():
        if number != 0:
            others[place] = number
    return others


class Machine:
    def __init__(self, rows, boxes, cells, bells):
        self.program = list(rows)
        self.in_boxes = list(boxes)
        self.in_cells = dict(cells)
        self.in_asides = {}
        self.rung = {}
        for bell in bells:
            self.rung[bell] = True
        self.told_numbers = []
        self.seen_numbers = []
        self.pile = []
        self.marks_done = 0
        self.here = 0
        self.how_ended = None

    def row(self):
        return self.here

    def ending(self):
        return self.how_ended

    def boxes(self):
        return list(self.in_boxes)

    def cells(self):
        return without_noughts(self.in_cells)

    def asides(self):
        return without_noughts(self.in_asides)

    def told(self):
        return list(self.told_numbers)

    def seen(self):
        return list(self.seen_numbers)

    def deep(self):
        return len(self.pile)

    def passed(self):
        return self.marks_done

    def step(self):
        if self.here is None:
            raise Ended()
        row = self.program[self.here]
        # Ahead of the deed: a call lays the row behind it on the pile, and a row that leads elsewhere says so itself.
        self.here = self.here + 1
        DEEDS[row[0]](self, row)

    def run(self, most):
        done = 0
        while done < most and self.here is not None:
            self.step()
            done = done + 1
        return done

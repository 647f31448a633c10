"""Wishes put into a program: the widened rows and their paper."""

from widenrows.free import free_boxes
from widenrows.layout import least_layout
from widenrows.rows import asides_named, check_rows, far_of
from widenrows.ways import goes_on, targets_of, ways_of, with_targets
from widenrows.wishes import check_wishes, numbers_of_whats, whats_before, whats_on_way

# Counting needs a box. What it held lies in an aside meanwhile, so any box will do.
COUNTING_BOX = 0


class Sheet:
    # Rows are written one behind the other; what they jump to stays a name till all rows have their places.

    def __init__(self, aside_of_count, spare_aside):
        self.aside_of_count = aside_of_count
        self.spare_aside = spare_aside
        self.drafts = []
        self.leads = []
        self.begins = {}

    def begin(self, name):
        self.begins[name] = len(self.drafts)

    def write_old(self, r, row, names):
        self.drafts.append((row, names))
        self.leads.append(r)

    def put_in(self, row, names):
        self.drafts.append((row, names))
        self.leads.append(None)

    def put_in_count(self, number):
        aside = self.aside_of_count[number]
        self.put_in(("put", COUNTING_BOX, self.spare_aside), [])
        self.put_in(("take", COUNTING_BOX, aside), [])
        self.put_in(("more", COUNTING_BOX, 1), [])
        self.put_in(("put", COUNTING_BOX, aside), [])
        self.put_in(("take", COUNTING_BOX, self.spare_aside), [])

    def put_in_whats(self, whats):
        for what in whats:
            if what[0] == "look":
                self.put_in(("see", what[2], what[1]), [])
            elif what[0] == "count":
                self.put_in_count(what[1])
            else:
                self.put_in(("below", what[2], 0, 0), [("halt", what[1])])

    def finished_rows(self):
        return [with_targets(row, [self.begins[name] for name in names]) for row, names in self.drafts]


def goes_on_to(rows, r, s):
    return s == r + 1 and goes_on(rows[r])


def is_led_round(rows, wishes, r, s):
    return not goes_on_to(rows, r, s) and len(whats_on_way(wishes, r, s)) > 0


def name_of_way(rows, wishes, r, s):
    if goes_on_to(rows, r, s) or is_led_round(rows, wishes, r, s):
        return ("way", r, s)
    return ("before", s)


def write_old_rows(sheet, rows, wishes):
    for r, row in enumerate(rows):
        sheet.begin(("before", r))
        sheet.put_in_whats(whats_before(wishes, r))
        sheet.write_old(r, row, [name_of_way(rows, wishes, r, s) for s in targets_of(row)])
        if goes_on(row):
            sheet.begin(("way", r, r + 1))
            sheet.put_in_whats(whats_on_way(wishes, r, r + 1))


def write_ways_round(sheet, rows, wishes):
    # These stand behind the last old row, which never goes on: so nothing comes to them but by their names.
    for r in range(len(rows)):
        for s in ways_of(rows, r):
            if is_led_round(rows, wishes, r, s):
                sheet.begin(("way", r, s))
                sheet.put_in_whats(whats_on_way(wishes, r, s))
                sheet.put_in(("jump", 0, 0), [("before", s)])


def write_halts(sheet, wishes):
    for number in numbers_of_whats(wishes, "guard"):
        sheet.begin(("halt", number))
        sheet.put_in(("halt", number), [])


def unnamed_asides(rows, how_many):
    named = asides_named(rows)
    return [aside for aside in range(len(named) + how_many) if aside not in named][:how_many]


def widened(rows, wishes):
    check_rows(rows)
    check_wishes(rows, wishes)
    counted = numbers_of_whats(wishes, "count")
    asides = unnamed_asides(rows, len(counted) + 1)
    counts = list(zip(counted, asides))
    sheet = Sheet(dict(counts), asides[-1])
    write_old_rows(sheet, rows, wishes)
    write_ways_round(sheet, rows, wishes)
    write_halts(sheet, wishes)
    paper = {"leads": sheet.leads, "forms": [far_of(row) for row in rows], "free": free_boxes(rows), "counts": counts}
    return (least_layout(sheet.finished_rows()), paper)

"""The same reading as the plain one, told of a run of the widened rows."""

from widenrows.machine import Machine
from widenrows.widen import widened


def wide_seen(rows, wishes, boxes, cells, bells, most):
    told = widened(rows, wishes)
    paper = told[1]
    machine = Machine(told[0], boxes, cells, bells)
    stood_at = []
    while len(stood_at) < most and machine.row() is not None:
        lead = paper["leads"][machine.row()]
        if lead is not None:
            stood_at.append(lead)
        if len(stood_at) < most:
            machine.step()
    asides = machine.asides()
    counts = {}
    for number, aside in paper["counts"]:
        counts[number] = asides.get(aside, 0)
    return {"seen": machine.seen(), "counts": counts, "rows": stood_at, "ending": machine.ending()}

"""The ways out of a row: where it goes on, jumps or calls."""

# A call and a mark are not among these: they go on where they come home.
NOT_GOING_ON = ("stop", "back", "halt", "jump")


def goes_on(row):
    return row[0] not in NOT_GOING_ON


def targets_of(row):
    word = row[0]
    if word == "table":
        return list(row[2])
    if word in ("jump", "call", "mark"):
        return [row[1]]
    if word in ("zero", "below"):
        return [row[2]]
    return []


def with_targets(row, targets):
    word = row[0]
    if word == "table":
        return (word, row[1], tuple(targets))
    if word in ("jump", "call", "mark"):
        return (word, targets[0], row[2])
    if word in ("zero", "below"):
        return (word, row[1], targets[0], row[3])
    return row


def ways_of(rows, r):
    ways = targets_of(rows[r])
    if goes_on(rows[r]):
        ways.append(r + 1)
    return sorted(set(ways))

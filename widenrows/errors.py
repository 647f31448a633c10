"""The refusals: each stands straight under RowError, none under another one."""


class RowError(ValueError):
    pass


class NoRows(RowError):
    def __init__(self, at):
        RowError.__init__(self, f"no program: row {at}")
        self.at = at


class NoText(RowError):
    def __init__(self, at):
        RowError.__init__(self, f"no such text: line {at}")
        self.at = at


class NoLayout(RowError):
    def __init__(self, at):
        RowError.__init__(self, f"no good layout: row {at}")
        self.at = at


class NoUnits(RowError):
    def __init__(self, at):
        RowError.__init__(self, f"no units of rows: unit {at}")
        self.at = at


class NoFree(RowError):
    def __init__(self, at):
        RowError.__init__(self, f"no right claims of free boxes: row {at}")
        self.at = at


class NoWish(RowError):
    def __init__(self, at):
        RowError.__init__(self, f"no such wish: wish {at}")
        self.at = at


class Ended(RowError):
    pass


class NoPaper(RowError):
    pass


class TooMuch(RowError):
    pass


class NoLine(RowError):
    pass

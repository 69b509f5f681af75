"""The refusals of the program."""


class HeapError(ValueError):
    pass


class NoDeed(HeapError):
    def __init__(self, row):
        HeapError.__init__(self, f"row {row} is no deed")
        self.row = row


class NoLog(HeapError):
    def __init__(self, row):
        HeapError.__init__(self, f"row {row} is no row of a log")
        self.row = row


class NoThing(HeapError):
    pass


class NoField(HeapError):
    pass


class NoRoom(HeapError):
    pass

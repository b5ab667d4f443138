"""The refusals. Each is a ShelfError, and none stands under another one."""


class ShelfError(ValueError):
    """Any refusal."""


class NoLetters(ShelfError):
    """There is no shelf of so many letters, or of so many hands."""


class NoRoom(ShelfError):
    """Low does not come ahead of high."""


class NoThing(ShelfError):
    """This is no thing, or no row of things that the shelf can take."""


class NoPlace(ShelfError):
    """There is no such place."""


class NoHand(ShelfError):
    """There is no such hand, or it may not do this."""


class NoShelf(ShelfError):
    """There is no shelf yet."""


class NoLine(ShelfError):
    """This row is none that the desk knows."""


class NoState(ShelfError):
    """These texts tell no state, or the states can't be laid together; row says where."""

    def __init__(self, row):
        ShelfError.__init__(self, f"no state, see row {row}")
        self.row = row

"""The refusals: each stands straight under MossError, none under another one."""


class MossError(ValueError):
    pass


class BadCell(MossError):

    def __init__(self, place):
        MossError.__init__(self, f"no cell at place {place}")
        self.place = place


class BadPiece(MossError):
    pass


class BadTurn(MossError):
    pass


class TooMany(MossError):
    pass


class Endless(MossError):
    pass


class TooWide(MossError):
    pass


class NoCell(MossError):
    pass


class NoMarks(MossError):
    pass


class NoText(MossError):

    def __init__(self, at):
        MossError.__init__(self, f"not to be read at {at}")
        self.at = at


class BadDeed(MossError):
    pass

"""The refusals of Linepress."""


class LineError(ValueError):
    pass


class NoChoice(LineError):
    pass


class NoRoom(LineError):
    pass


class NoPiece(LineError):
    def __init__(self, at):
        LineError.__init__(self, f"no row: it fails at token {at}")
        self.at = at

"""The refusals of the program, one class for each."""


class MarkError(ValueError):
    pass


class NoBoard(MarkError):
    pass


class NoCounts(MarkError):
    pass


class NoNumber(MarkError):
    pass


class NoneSuch(MarkError):
    pass


class NoExchange(MarkError):
    pass


class NotAlike(MarkError):
    pass

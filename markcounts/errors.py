"""The refusals of the program, one class for each."""


class MarkError(ValueError):
    """Any refusal."""


class NoBoard(MarkError):
    """A list that is no board."""


class NoCounts(MarkError):
    """Lists that are no counts."""


class NoNumber(MarkError):
    """A number that no board of the counts has."""


class NoneSuch(MarkError):
    """Counts that no board has."""


class NoExchange(MarkError):
    """An exchange that can't be done, or that is none."""


class NotAlike(MarkError):
    """Boards of unlike counts."""

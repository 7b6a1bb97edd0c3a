"""The refusals of the program, each by its own class."""


class WhenceError(ValueError):
    """Any refusal."""


class NoName(WhenceError):
    """What should be a name is none."""


class NoNote(WhenceError):
    """What should be a note of a kind is none."""


class NoKind(WhenceError):
    """Of what was handed in no kind can be made."""


class Twice(WhenceError):
    """A column stands there that was there ahead."""


class Misfit(WhenceError):
    """A row has another length than its columns."""


class NoTable(WhenceError):
    """A table that is asked isn't there."""


class NoColumn(WhenceError):
    """A column that is asked isn't there."""


class Unlike(WhenceError):
    """Columns that should go together don't."""


class NotPlain(WhenceError):
    """There is a leave in what should be a plain asking."""


class NoText(WhenceError):
    """A text writes nothing that can be read."""

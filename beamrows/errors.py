"""The refusals of the program, one class for each kind."""


class RowsError(ValueError):
    """Any refusal of this package."""


class NoProgram(RowsError):
    """What was handed in is no program."""


class NoRoom(RowsError):
    """The program does not fit in at its base."""


class NoNumbers(RowsError):
    """What was handed in is not the numbers of a program."""


class NoState(RowsError):
    """What was handed in is no state of the program."""


class NoFrame(RowsError):
    """The frame would have too many lines."""


class NoSpan(RowsError):
    """There is no way between the two rows."""


class NotWhole(RowsError):
    """The frames of the program are not told as whole."""


class NoPaper(RowsError):
    """What was handed in is no paper for the question."""


class NoFill(RowsError):
    """No filling makes the write fall on the told beat."""


class TooMany(RowsError):
    """There are more entries or frames than are kept."""


class NoText(RowsError):
    """What was handed in is not the text of a program or a tale."""


class NoStep(RowsError):
    """There is no such frame to look at or to take back."""

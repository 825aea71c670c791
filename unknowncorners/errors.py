"""The errors that the package raises."""


class PaintError(ValueError):
    """What all errors of the package stand under."""


class InvalidFrame(PaintError):
    """A value is no frame."""


class InvalidProgram(PaintError):
    """A value is no program of the frame."""


class InvalidSetting(PaintError):
    """A value is no setting of the frame."""


class InvalidCell(PaintError):
    """A value is no cell."""


class InvalidFacts(PaintError):
    """A value is no list of facts of the frame."""


class InvalidIndex(PaintError):
    """A value is no index of what is numbered."""


class InvalidColour(PaintError):
    """A value is no colour."""


class InvalidStatement(PaintError):
    """A value is no statement of the frame."""


class InvalidWidths(PaintError):
    """A value is no pair of widths."""


class InvalidValue(PaintError):
    """A value is not what a method takes."""


class Impossible(PaintError):
    """No setting keeps the facts."""


class OtherFrame(PaintError):
    """Two paintings are on unlike frames."""


class NothingToUndo(PaintError):
    """There is no deed left to take back."""


class InvalidCommand(PaintError):
    """A value is no command of a console."""


class InvalidText(PaintError):
    """A text has a word that cannot stand at a place."""

    def __init__(self, place):
        self.place = place

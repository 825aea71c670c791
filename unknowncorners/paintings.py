"""Paintings as objects."""

from unknowncorners.alike import alike, under
from unknowncorners.errors import InvalidProgram, InvalidValue, OtherFrame
from unknowncorners.painting import colour_at, picture_of
from unknowncorners.programs import (
    is_amount, is_box, is_colour, is_statement, need_frame, need_index, need_program, need_statement)
from unknowncorners.settings import need_setting


class Painting:
    """A program of a frame, which can be put together with others and compared for all settings."""

    def __init__(self, frame, *statements):
        need_program(frame, statements)
        self._frame = frame
        self._program = statements

    @property
    def frame(self):
        """The frame."""
        return self._frame

    @property
    def program(self):
        """The tuple of the statements."""
        return self._program

    def __len__(self):
        return len(self._program)

    def __bool__(self):
        return not alike(self._frame, self._program, ())

    def __iter__(self):
        raise TypeError("a painting is not iterated over")

    def __getitem__(self, at):
        need_index(at, len(self._program))
        return self._program[at]

    def __setitem__(self, at, worth):
        need_index(at, len(self._program))
        need_statement(self._frame, worth)
        self._program = self._program[:at] + (worth,) + self._program[at + 1:]

    def __contains__(self, x):
        # Python takes True for equal to 1: what is no statement is told apart first.
        return is_statement(self._frame, x) and x in self._program

    def __call__(self, setting, cell):
        return colour_at(self._frame, self._program, setting, cell)

    def __add__(self, other):
        if not isinstance(other, (Painting, tuple)):
            return NotImplemented
        statements = self._program + program_beside(self, other)
        return Painting(self._frame, *statements)

    def __radd__(self, other):
        if not isinstance(other, tuple):
            return NotImplemented
        statements = program_beside(self, other) + self._program
        return Painting(self._frame, *statements)

    def __iadd__(self, other):
        if not isinstance(other, (Painting, tuple)):
            return NotImplemented
        self._program = self._program + program_beside(self, other)
        return self

    def __eq__(self, other):
        return (isinstance(other, Painting) and self._frame == other._frame
                and alike(self._frame, self._program, other._program))

    def __ne__(self, other):
        return not self == other

    def __le__(self, other):
        if not isinstance(other, Painting):
            return NotImplemented
        need_same_frame(self, other)
        return under(self._frame, self._program, other._program)

    def __lt__(self, other):
        if not isinstance(other, Painting):
            return NotImplemented
        return self <= other and self != other

    def moved(self, across=0, down=0):
        """Give the painting that is moved by these integers."""
        if not (is_amount(across) and is_amount(down)):
            raise InvalidValue("a painting is moved by integers from -9 to 9")
        return Painting(self._frame, ("move", across, down, self._program))

    def clipped(self, box):
        """Give the painting that is clipped to a box."""
        if not is_box(self._frame, box):
            raise InvalidValue("a painting is clipped to a box of its frame")
        return Painting(self._frame, ("clip", box, self._program))

    def steps(self, setting):
        """Go through the pictures behind 0, 1, .. all statements for a setting."""
        need_setting(self._frame, setting)
        # All pictures belong to what stands at the first one, whatever is changed later.
        program = self._program
        values = (list(setting[0]), list(setting[1]))
        for many in range(len(program) + 1):
            yield picture_of(program[:many], values)

    @classmethod
    def of_boxes(cls, frame, *boxes, colour=1):
        """Give the painting that fills boxes with one colour."""
        need_frame(frame)
        if not is_colour(colour):
            raise InvalidProgram("a fill has a colour from 0 to 9")
        statements = [("fill", box, colour) for box in boxes]
        return cls(frame, *statements)


def need_same_frame(one, other):
    """Raise OtherFrame unless two paintings are on equal frames."""
    if one.frame != other.frame:
        raise OtherFrame("these paintings are on unlike frames")


def program_beside(painting, other):
    """Give the program of what is to be added to a painting: another painting, or a tuple."""
    if isinstance(other, Painting):
        need_same_frame(painting, other)
        return other.program
    need_program(painting.frame, other)
    return other

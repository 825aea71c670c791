"""Easels: programs at settings, which are changed deed by deed, tried, and taken back."""

from unknowncorners.errors import Impossible, InvalidValue, NothingToUndo
from unknowncorners.painting import area_in, picture_of, repaint_of
from unknowncorners.programs import (
    is_axis, is_tuple_of, is_within, need_index, need_program, need_statement, on_axis)
from unknowncorners.settings import keeps_all, least_setting

MOST_SHIFT = 50


def is_shift(frame, axis, number, by):
    """Tell whether any values are an axis, one of its unknowns, and by how much that can be shifted."""
    return (is_axis(axis) and is_within(number, 0, on_axis(frame, axis) - 1)
            and is_within(by, -MOST_SHIFT, MOST_SHIFT))


def need_shift(frame, axis, number, by):
    """Raise InvalidValue unless the values are a shift."""
    if not is_shift(frame, axis, number, by):
        raise InvalidValue("a shift is of an unknown of an axis, by an integer from -50 to 50")


def need_shifts(frame, shifts):
    """Raise InvalidValue unless the value is a list of shifts."""
    if not (type(shifts) is list and all([
            is_tuple_of(item, 3) and is_shift(frame, item[0], item[1], item[2]) for item in shifts])):
        raise InvalidValue("shifts are a list of tuples (axis, number, by)")


def need_kept(facts, setting):
    """Raise Impossible unless a setting keeps all facts."""
    if not keeps_all(facts, setting):
        raise Impossible("this setting would not keep the facts")


def shifted(setting, axis, number, by):
    """Give the setting in which the value of one unknown is changed by an integer."""
    across, down = [[value + by if other == axis and at == number else value
                     for at, value in enumerate(values)] for other, values in zip("xy", setting)]
    return across, down


class Trying:
    """A block at whose end an easel is as it was at its beginning."""

    def __init__(self, easel):
        self._easel = easel
        self._states = []
        self._floor = 0

    def __enter__(self):
        return self.begin()

    def __exit__(self, kind, value, trace):
        self.finish()

    def begin(self):
        """Begin the block, and give its easel."""
        easel = self._easel
        self._states = easel._states
        self._floor = easel._floor
        easel._states = list(self._states)
        easel._floor = len(self._states)
        return easel

    def finish(self):
        """End the block."""
        easel = self._easel
        easel._states = self._states
        easel._floor = self._floor


class Easel:
    """A program at a setting, at first all values 0."""

    def __init__(self, frame, program):
        need_program(frame, program)
        self._frame = frame
        # Each deed adds a tuple (program, setting), and undo takes it away, down to so many.
        self._states = [(program, ([0] * frame[0], [0] * frame[1]))]
        self._floor = 1

    @property
    def frame(self):
        """The frame."""
        return self._frame

    @property
    def program(self):
        """The program as it is now."""
        program, _ = self._states[-1]
        return program

    @property
    def setting(self):
        """The setting as it is now."""
        _, (across, down) = self._states[-1]
        return list(across), list(down)

    @property
    def picture(self):
        """The picture of the program for the setting."""
        program, setting = self._states[-1]
        return picture_of(program, setting)

    @property
    def deeds(self):
        """How many deeds are not taken back."""
        return len(self._states) - 1

    def put(self, statement):
        """Add a statement at the end of the program."""
        need_statement(self._frame, statement)
        program, setting = self._states[-1]
        self._states.append((program + (statement,), setting))

    def take(self, index):
        """Take a statement out of the program, and give it."""
        program, setting = self._states[-1]
        need_index(index, len(program))
        self._states.append((program[:index] + program[index + 1:], setting))
        return program[index]

    def shift(self, axis, number, by):
        """Change the value of an unknown, and give the repaint."""
        need_shift(self._frame, axis, number, by)
        program, setting = self._states[-1]
        later = shifted(setting, axis, number, by)
        self._states.append((program, later))
        return repaint_of(program, setting, later)

    def undo(self):
        """Take back the last deed."""
        if len(self._states) == self._floor:
            raise NothingToUndo("there is no deed to take back")
        self._states.pop()

    def twin(self):
        """Give an independent copy, outside of all blocks."""
        return Easel(self._frame, self.program).following(self)

    def following(self, easel):
        """Take over from another easel what can be taken back."""
        self._states = list(easel._states)
        return self

    def trying(self):
        """Give a block of trying."""
        return Trying(self)

    def tried(self, shifts):
        """Give the pictures behind each of some shifts, which are then taken back."""
        need_shifts(self._frame, shifts)
        pictures = []
        with self.trying():
            for axis, number, by in shifts:
                self.shift(axis, number, by)
                pictures.append(self.picture)
        return pictures


class CountingEasel(Easel):
    """An easel that counts the cells that its shifts paint anew."""

    def __init__(self, frame, program):
        super().__init__(frame, program)
        self._cells = 0

    @property
    def cells(self):
        """How many cells all shifts have painted anew."""
        return self._cells

    def shift(self, axis, number, by):
        """Change the value of an unknown, count the cells of the repaint, and give it."""
        changed = super().shift(axis, number, by)
        self._cells = self._cells + area_in(*changed, 1)
        return changed

    def following(self, easel):
        """Take over from another easel what can be taken back, and what is counted."""
        self._cells = easel._cells
        return super().following(easel)

    def twin(self):
        """Give an independent copy, outside of all blocks."""
        return CountingEasel(self._frame, self.program).following(self)


class CarefulEasel(Easel):
    """An easel whose setting always keeps facts."""

    def __init__(self, frame, program, facts):
        super().__init__(frame, program)
        self._states = [(program, least_setting(frame, facts))]
        self._facts = tuple(facts)

    @property
    def facts(self):
        """The list of the facts."""
        return list(self._facts)

    def shift(self, axis, number, by):
        """Change the value of an unknown if the facts are kept, and give the repaint."""
        need_shift(self._frame, axis, number, by)
        need_kept(self._facts, shifted(self.setting, axis, number, by))
        return super().shift(axis, number, by)

    def tried(self, shifts):
        """Give the pictures behind each of some shifts, if all keep the facts."""
        need_shifts(self._frame, shifts)
        setting = self.setting
        for axis, number, by in shifts:
            setting = shifted(setting, axis, number, by)
            need_kept(self._facts, setting)
        return super().tried(shifts)

    def twin(self):
        """Give an independent copy, outside of all blocks."""
        return CarefulEasel(self._frame, self.program, self.facts).following(self)


class CarefulCountingEasel(CarefulEasel, CountingEasel):
    """An easel whose setting always keeps facts, and that counts the cells painted anew."""

    def __init__(self, frame, program, facts):
        super().__init__(frame, program, facts)

    def twin(self):
        """Give an independent copy, outside of all blocks."""
        return CarefulCountingEasel(self._frame, self.program, self.facts).following(self)

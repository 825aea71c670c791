"""Texts of programs and settings."""

from unknowncorners.errors import InvalidText
from unknowncorners.programs import (
    MOST_AMOUNT, MOST_COLOUR, need_frame, need_program, on_axis, programs_inside)
from unknowncorners.settings import need_setting

MOST_LEVELS = 20
MOST_DIGITS = 9
STATEMENTS = ("fill", "clip", "move", "if")


def corner_word(corner):
    """Write a corner."""
    number, amount = corner
    return f"{number}{amount:+d}"


def own_words(statement):
    """List the words of a statement ahead of the programs inside of it."""
    word = statement[0]
    if word == "move":
        return [word, str(statement[1]), str(statement[2])]
    if word == "if":
        return [word, statement[1], corner_word(statement[2]), corner_word(statement[3])]
    words = [word, *[corner_word(corner) for corner in statement[1]]]
    return [*words, str(statement[2])] if word == "fill" else words


def words_of(program):
    """List the words of a program."""
    found = []
    for statement in program:
        found.extend(own_words(statement))
        for inside in programs_inside(statement):
            found.extend(["(", *words_of(inside), ")"])
    return found


def write_program(frame, program):
    """Write a program as a text."""
    need_program(frame, program)
    return " ".join(words_of(program))


def write_setting(frame, setting):
    """Write a setting as a text."""
    need_setting(frame, setting)
    across, down = setting
    return " ".join([str(value) for value in across + down])


def table_of(values):
    """Make the table of the words that stand for integers, or for other words."""
    return {str(value): value for value in values}


def corner_table(many):
    """Make the table of the words that stand for corners on an axis with so many unknowns."""
    corners = [(number, amount) for number in range(many)
               for amount in range(-MOST_AMOUNT, MOST_AMOUNT + 1)]
    return {corner_word(corner): corner for corner in corners}


class Reader:
    """Reads the words of a text one after another, as the grammar names them."""

    def __init__(self, frame, words):
        self._words = words
        self._place = 0
        self._starts = table_of(STATEMENTS)
        self._axes = table_of(["x", "y"])
        self._colours = table_of(list(range(MOST_COLOUR + 1)))
        self._amounts = table_of(list(range(-MOST_AMOUNT, MOST_AMOUNT + 1)))
        self._corners = {axis: corner_table(on_axis(frame, axis)) for axis in "xy"}

    def word(self, table):
        """Read a word that stands in a table, and give what it stands for."""
        if self._place == len(self._words) or self._words[self._place] not in table:
            raise InvalidText(self._place)
        self._place = self._place + 1
        return table[self._words[self._place - 1]]

    def corner(self, axis):
        """Read a corner on an axis."""
        return self.word(self._corners[axis])

    def box(self):
        """Read the four corners of a box."""
        return self.corner("x"), self.corner("x"), self.corner("y"), self.corner("y")

    def inside(self, level):
        """Read a program in parentheses that stands inside of a statement of a level."""
        self.word({"(": True})
        program = self.statements(level + 1)
        self.word({")": True})
        return program

    def statement(self, level):
        """Read one statement of a level."""
        word = self.word(self._starts)
        if word == "fill":
            return word, self.box(), self.word(self._colours)
        if word == "clip":
            return word, self.box(), self.inside(level)
        if word == "move":
            return word, self.word(self._amounts), self.word(self._amounts), self.inside(level)
        axis = self.word(self._axes)
        return (word, axis, self.corner(axis), self.corner(axis), self.inside(level),
                self.inside(level))

    def statements(self, level):
        """Read the statements of a level, as many as there are."""
        found = []
        while (level <= MOST_LEVELS and self._place < len(self._words)
               and self._words[self._place] in STATEMENTS):
            found.append(self.statement(level))
        return tuple(found)

    def end(self):
        """Raise InvalidText if there are words left."""
        if self._place < len(self._words):
            raise InvalidText(self._place)


def words_in(text):
    """List the words of a text; the empty one has one empty word."""
    if type(text) is not str:
        raise InvalidText(0)
    return text.split(" ")


def read_statement(frame, text):
    """Read the text of one statement, for what is known to be a frame."""
    reader = Reader(frame, words_in(text))
    statement = reader.statement(1)
    reader.end()
    return statement


def read_program(frame, text):
    """Read the text of a program."""
    need_frame(frame)
    words = words_in(text)
    reader = Reader(frame, [] if words == [""] else words)
    program = reader.statements(1)
    reader.end()
    return program


def is_integer(word):
    """Tell whether a word is an integer of at most 9 digits."""
    digits = word.removeprefix("-")
    return (1 <= len(digits) <= MOST_DIGITS and all([sign in "0123456789" for sign in digits])
            and str(int(word)) == word)


def read_setting(frame, text):
    """Read the text of a setting."""
    need_frame(frame)
    words = words_in(text)
    across, down = frame
    for place, word in enumerate(words):
        if place == across + down or not is_integer(word):
            raise InvalidText(place)
    if len(words) < across + down:
        raise InvalidText(len(words))
    values = [int(word) for word in words]
    return values[:across], values[across:]

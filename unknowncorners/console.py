"""A console: an easel that is told by commands what to do."""

from unknowncorners.alike import alike
from unknowncorners.easels import Easel
from unknowncorners.errors import InvalidCommand
from unknowncorners.painting import area, area_in, colour_at
from unknowncorners.seen import seen
from unknowncorners.texts import is_integer, read_program, read_statement, write_program, write_setting

MOST_TRIES = 8

# What stands behind the word of a command: t is a text, i an integer, and w any word.
FORMS = {
    "put": "t", "undo": "", "take": "i", "shift": "wii", "at": "ii", "area": "i", "setting": "",
    "program": "", "seen": "", "alike": "t",
}


def put_text(easel, text):
    """Put the statement of a text."""
    easel.put(read_statement(easel.frame, text))
    return "ok"


def undo_deed(easel):
    """Take back the last deed."""
    easel.undo()
    return "ok"


def take_out(easel, index):
    """Take a statement out, and give its text."""
    return write_program(easel.frame, (easel.take(index),))


def shift_by(easel, axis, number, by):
    """Shift an unknown, and tell the area of the repaint."""
    changed = easel.shift(axis, number, by)
    return str(area_in(*changed, 1))


def tell_colour(easel, x, y):
    """Tell the colour of a cell."""
    return str(colour_at(easel.frame, easel.program, easel.setting, (x, y)))


def tell_area(easel, colour):
    """Tell the area of a colour."""
    return str(area(easel.frame, easel.program, easel.setting, colour))


def tell_setting(easel):
    """Tell the text of the setting."""
    return write_setting(easel.frame, easel.setting)


def or_dash(text):
    """Give a text, or a dash for none."""
    return text if text != "" else "-"


def tell_program(easel):
    """Tell the text of the program."""
    return or_dash(write_program(easel.frame, easel.program))


def tell_seen(easel):
    """Tell the numbers of the fills that are seen."""
    return or_dash(" ".join([str(number) for number in seen(easel.frame, easel.program)]))


def tell_alike(easel, text):
    """Tell whether the program is alike to that of a text."""
    other = read_program(easel.frame, text)
    return "yes" if alike(easel.frame, easel.program, other) else "no"


ANSWERS = {
    "put": put_text, "undo": undo_deed, "take": take_out, "shift": shift_by, "at": tell_colour,
    "area": tell_area, "setting": tell_setting, "program": tell_program, "seen": tell_seen,
    "alike": tell_alike,
}


def fits(word, kind):
    """Tell whether a word is of a kind: i for an integer, w for any word."""
    return is_integer(word) if kind == "i" else word != ""


def read_given(form, words):
    """Read words of a form; raise InvalidCommand if they are not of it."""
    if len(words) != len(form) or not all([fits(word, kind) for word, kind in zip(words, form)]):
        raise InvalidCommand("these words cannot stand in this command")
    return [int(word) if kind == "i" else word for word, kind in zip(words, form)]


def read_tries(words):
    """Read the tries ahead of a command: the list of their shifts, [] for none, and the other words."""
    tries = []
    while words[:1] == ["try"]:
        if words[1:2] == ["-"]:
            shift, words = [], words[2:]
        else:
            shift, words = read_given("wii", words[1:4]), words[4:]
        tries.append(shift)
    if len(tries) > MOST_TRIES:
        raise InvalidCommand("a command has at most 8 words try ahead")
    return tries, words


def read_command(command):
    """Read a command: the shifts of its tries, its word, and what is given behind it."""
    if type(command) is not str:
        raise InvalidCommand("a command is a string")
    tries, words = read_tries(command.split(" "))
    if len(words) == 0 or words[0] not in FORMS:
        raise InvalidCommand("there is no such command")
    word, *behind = words
    form = FORMS[word]
    if form == "t" and len(behind) > 0:
        return tries, word, [" ".join(behind)]
    return tries, word, read_given(form, behind)


def answer(easel, tries, word, given):
    """Do a command inside of its tries, and give the answer."""
    if len(tries) == 0:
        action = ANSWERS[word]
        return action(easel, *given)
    shift, *others = tries
    with easel.trying():
        if len(shift) > 0:
            easel.shift(*shift)
        return answer(easel, others, word, given)


class Console:
    """An easel, with the empty program at first, that does commands."""

    def __init__(self, frame):
        self._easel = Easel(frame, ())

    def execute(self, command):
        """Do a command, and give the answer as a string."""
        tries, word, given = read_command(command)
        return answer(self._easel, tries, word, given)

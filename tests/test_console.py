"""Promise 17: the console, by the conventions [2] and what [10] to [16] say."""

import random
import re
import unittest

from tests.samples import (
    FRAMES, HUGE, Grown, beyond_close, box_of, call_both_ways, colours, edge_programs, expect, odd_values,
    tops, wide_programs, wrong_frames)
from tests.test_easels import area_of, random_shift
from tests.test_programs import MIXED
from tests.test_texts import ODD_WORDS, changed_words, nested, text_of, wrong_place
from unknowncorners.alike import alike
from unknowncorners.console import Console
from unknowncorners.easels import Easel
from unknowncorners.errors import (
    InvalidColour, InvalidCommand, InvalidFrame, InvalidIndex, InvalidText, InvalidValue, NothingToUndo,
    PaintError)
from unknowncorners.painting import area, colour_at
from unknowncorners.seen import seen

FRAME = (2, 1)
DOT = ("fill", box_of(0, 1, 0, 1), 1)
BLUE = ("fill", box_of(0, 2, -1, 1, 1), 2)
DOT_TEXT, BLUE_TEXT = "fill 0+0 0+1 0+0 0+1 1", "fill 0+0 1+2 0-1 0+1 2"

INTEGER = "(?:0|-?[1-9][0-9]{0,8})"
SIMPLE = (f"put [^]*|undo|take {INTEGER}|shift [^ ]+ {INTEGER} {INTEGER}|at {INTEGER} {INTEGER}|area {INTEGER}|"
          f"setting|program|seen|alike [^]*").replace("[^]", "(?:.|\n)")
TRY = f"try (?:-|(?!- )[^ ]+ {INTEGER} {INTEGER}) "
COMMAND = re.compile(f"(?:{TRY}){{0,8}}(?:{SIMPLE})")


def command_of(deed):
    """The command that stands for a deed; a text is put in as it is."""
    word, *given = deed
    if word == "try":
        shift, inside = given
        return "try " + (" ".join(map(str, shift)) if shift else "-") + " " + command_of(inside)
    return " ".join([word, *map(str, given)])


def put_place(frame, text):
    """The place of the first wrong word of what is to be one statement; None if there is none."""
    place, words = wrong_place(frame, text), text.split(" ")
    # The statement ends where its text is whole, and behind it each word is wrong.
    for end in range(1, len(words)):
        if wrong_place(frame, " ".join(words[:end])) is None and (place is None or place >= end):
            return end
    return place if text else 0


# The programs of the texts that the courses use.
KNOWN = {"": ()}


def known(program):
    """Note the program of a text, and give the text."""
    KNOWN[text_of(program)] = program
    return text_of(program)


def program_of(text, place):
    """The program that has a text; InvalidText if there is the place of a wrong word."""
    if place is not None:
        raise InvalidText(place)
    return KNOWN[text]


def answer_of(easel, deed):
    """What a deed answers, by calls on an easel."""
    word, *given = deed
    frame = easel.frame
    if word == "try":
        with easel.trying():
            if given[0]:
                easel.shift(*given[0])
            return answer_of(easel, given[1])
    if word == "put":
        easel.put(program_of(given[0], put_place(frame, given[0]))[0])
        return "ok"
    if word == "undo":
        easel.undo()
        return "ok"
    if word == "take":
        return text_of((easel.take(given[0]),))
    if word == "shift":
        return str(area_of(easel.shift(*given)))
    if word == "at":
        return str(colour_at(frame, easel.program, easel.setting, tuple(given)))
    if word == "area":
        return str(area(frame, easel.program, easel.setting, given[0]))
    if word == "setting":
        return " ".join([str(value) for values in easel.setting for value in values])
    if word == "program":
        return text_of(easel.program) or "-"
    if word == "seen":
        return " ".join(map(str, seen(frame, easel.program))) or "-"
    other = program_of(given[0], wrong_place(frame, given[0]))
    return "yes" if alike(frame, easel.program, other) else "no"


def outcome(function, *args):
    """What a call gives: an answer, or an error with its place."""
    try:
        return function(*args)
    except PaintError as error:
        return type(error), getattr(error, "place", None)


class Deeds:
    """Makes deeds, by a fixed course."""

    def __init__(self, seed, frame):
        self.chance, self.frame = random.Random(seed), frame

    def program(self, most_levels=3):
        return Grown(self.frame, self.chance.randrange(10 ** 6), self.chance.randint(1, most_levels), 1, True).program

    def text(self, one):
        program = self.program() or (DOT,)
        return known(program[:1] if one else program)

    def deed(self, easel, depth):
        names = ["put"] * 4 + ["shift"] * 4 + ["take", "undo", "at", "area", "setting", "program", "seen", "alike"]
        names += ["try"] * 4 if depth > 0 else []
        name, many = self.chance.choice(names), len(easel.program)
        if name == "put":
            return name, self.text(self.chance.random() < 0.8)
        if name == "alike":
            return name, self.chance.choice((self.text(False), known(easel.program), known(easel.program[1:]), ""))
        if name == "take":
            return name, self.chance.choice((0, many - 1, many // 2, many, -1))
        if name == "shift":
            return name, *self.shift()
        if name == "at":
            return name, self.chance.randint(-6, 6), self.chance.randint(-6, 6)
        if name == "area":
            return name, self.chance.choice((1, 2, 3, 4, 5, 6, 7, 8, 9, 0, 10))
        if name == "try":
            return name, self.chance.choice((None, self.shift())), self.deed(easel, depth - 1)
        return (name,)

    def shift(self):
        axis, number, by = random_shift(self.chance, self.frame)
        return self.chance.choice([(axis, number, by)] * 9 + [(axis, number, 51), (axis, 3, by), ("z", number, by)])


class ConsoleTestCase(unittest.TestCase):
    def expect_same(self, console, easel):
        """The console tells what the easel is."""
        self.assertEqual(console.execute("setting"), answer_of(easel, ("setting",)))
        self.assertEqual(console.execute("program"), answer_of(easel, ("program",)))

    def expect_error(self, error, console, command, place=None):
        before = [console.execute(word) for word in ("program", "setting")]
        with self.assertRaises(error, msg=repr(command)[:200]) as caught:
            console.execute(command)
        self.assertIs(type(caught.exception), error, repr(command)[:200])
        if place is not None:
            self.assertEqual(caught.exception.place, place, command)
        self.assertEqual([console.execute(word) for word in ("program", "setting")], before)


class CourseTest(ConsoleTestCase):
    def course(self, frame, seed, many):
        console, easel, deeds = Console(frame), Easel(frame, ()), Deeds(seed, frame)
        told = {}
        for _ in range(many):
            deed = deeds.deed(easel, 3)
            due = outcome(answer_of, easel, deed)
            self.assertEqual(outcome(console.execute, command_of(deed)), due, command_of(deed))
            if type(due) is str:
                self.assertIs(type(console.execute("setting")), str)
            self.expect_same(console, easel)
            told[deed[0], type(due)] = told.get((deed[0], type(due)), 0) + 1
        while easel.deeds:
            easel.undo()
            self.assertEqual(console.execute("undo"), "ok")
            self.expect_same(console, easel)
        self.expect_error(NothingToUndo, console, "undo")
        self.assertEqual(console.execute("program"), "-")
        self.assertEqual(console.execute("setting"), " ".join(["0"] * sum(frame)))
        return told

    def test_the_same_deeds_on_a_console_and_an_easel(self):
        told = {}
        for seed, frame in enumerate([frame for frame in FRAMES if sum(frame) < 5] * 5):
            for key, times in self.course(frame, seed, 50).items():
                told[key] = told.get(key, 0) + times
        for word in ("put", "undo", "take", "shift", "area", "try"):
            self.assertGreater(told[word, tuple], 0, word)
            self.assertGreater(told[word, str], 15, word)
        for word in ("at", "setting", "program", "seen", "alike"):
            self.assertGreater(told[word, str], 15, word)


class CommandsTest(ConsoleTestCase):
    def console(self, *commands, frame=FRAME):
        console = Console(frame)
        for command in commands:
            console.execute(command)
        return console

    def test_a_session(self):
        console = Console(FRAME)
        for command, due in (
                ("program", "-"), ("setting", "0 0 0"), ("seen", "-"), ("area 1", "0"), ("at 0 0", "0"),
                ("put " + DOT_TEXT, "ok"), ("program", DOT_TEXT), ("seen", "0"), ("area 1", "1"), ("at 0 0", "1"),
                ("put " + BLUE_TEXT, "ok"), ("program", DOT_TEXT + " " + BLUE_TEXT), ("seen", "0 1"),
                ("area 1", "0"), ("area 2", "4"), ("at 1 -1", "2"), ("shift x 1 1", "2"), ("setting", "0 1 0"),
                ("try x 1 4 area 2", "14"), ("try x 1 4 setting", "0 5 0"), ("setting", "0 1 0"),
                ("try - take 1", BLUE_TEXT), ("try - try y 0 -3 at 0 -4", "2"), ("at 0 -4", "0"),
                ("alike " + BLUE_TEXT, "no"), ("try - alike " + DOT_TEXT + " " + BLUE_TEXT, "yes"),
                ("take 0", DOT_TEXT), ("alike " + BLUE_TEXT, "yes"), ("undo", "ok"),
                ("program", DOT_TEXT + " " + BLUE_TEXT), ("undo", "ok"), ("setting", "0 0 0"), ("undo", "ok"), ("program", DOT_TEXT), ("undo", "ok"),
                ("program", "-")):
            self.assertEqual(console.execute(command), due, command)
        self.expect_error(NothingToUndo, console, "undo")

    def test_by_position_and_by_name(self):
        console = self.console("put " + DOT_TEXT)
        for command in ("program", "area 1", "try - seen", "alike "):
            call_both_ways(self, console.execute, command=command)
        self.assertEqual(Console(frame=FRAME).execute(command="setting"), "0 0 0")

    def test_wrong_frames(self):
        for wrong in wrong_frames():
            expect(self, InvalidFrame, Console, wrong)

    def test_programs_that_are_put_and_painted(self):
        for frame, program in list(edge_programs().values()) + list(wide_programs().values()):
            console = Console(frame)
            for statement in program:
                self.assertEqual(console.execute("put " + text_of((statement,))), "ok")
            self.assertEqual(console.execute("program"), text_of(program) or "-")
            setting = tuple([[0] * many for many in frame])
            for number, by in enumerate((3, -2, 5)[:frame[0]]):
                before = colours(program, setting)
                setting[0][number] += by
                later = colours(program, setting)
                due = [cell for cell in set(before) | set(later) if before.get(cell, 0) != later.get(cell, 0)]
                self.assertEqual(console.execute(f"shift x {number} {by}"), str(len(due)))
            cells = colours(program, setting)
            for colour in range(1, 10):
                self.assertEqual(console.execute(f"area {colour}"), str(list(cells.values()).count(colour)))
            for x, y in list(cells)[:9] + [(99, -99)]:
                self.assertEqual(console.execute(f"at {x} {y}"), str(cells.get((x, y), 0)))
            self.assertEqual(console.execute("alike " + text_of(program)), "yes")

    def test_seen_by_going_through_all_settings(self):
        for frame, program in edge_programs().values():
            console = self.console(*["put " + text_of((statement,)) for statement in program], frame=frame)
            found = {fill for setting in beyond_close(frame, [program]) for fill in tops(program, setting).values()}
            due = " ".join(map(str, sorted(found))) or "-"
            self.assertEqual(console.execute("seen"), due)
            self.assertEqual(console.execute("try x 0 7 seen"), due)

    def test_seen_and_alike_inside_of_try(self):
        console = self.console("put " + DOT_TEXT, "put " + BLUE_TEXT)
        cover = "fill 0-9 0+9 0-9 0+9 0"
        for command, due in (
                ("try - put " + cover, "ok"), ("seen", "0 1"), ("alike ", "no"), ("try x 1 9 seen", "0 1"),
                ("try x 1 9 alike " + DOT_TEXT + " " + BLUE_TEXT, "yes"), ("try x 1 -9 alike " + DOT_TEXT, "no")):
            self.assertEqual(console.execute(command), due, command)

    def test_undo_inside_of_try(self):
        console = self.console("put " + DOT_TEXT, "shift x 0 2")
        self.assertEqual(console.execute("try x 0 1 undo"), "ok")
        self.assertEqual(console.execute("setting"), "2 0 0")
        self.expect_error(NothingToUndo, console, "try - undo")
        self.assertEqual(console.execute("try - try y 0 1 undo"), "ok")
        self.expect_error(NothingToUndo, console, "try y 0 1 try - undo")
        self.assertEqual(console.execute("undo"), "ok")
        self.assertEqual(console.execute("undo"), "ok")
        self.expect_error(NothingToUndo, console, "undo")

    def test_tries_within_one_another(self):
        console = self.console("put " + DOT_TEXT)
        for many in range(9):
            self.assertEqual(console.execute("try x 0 5 " * many + "setting"), f"{5 * many} 0 0")
            self.assertEqual(console.execute("try - " * many + "put " + BLUE_TEXT), "ok")
            if many == 0:
                console.execute("undo")
            self.assertEqual(console.execute("program"), DOT_TEXT)
        for many in (9, 10, 50):
            self.expect_error(InvalidCommand, console, "try x 0 5 " * many + "setting")
            self.expect_error(InvalidCommand, console, "try - " * many + "setting")
            self.expect_error(InvalidCommand, console, "try x 0 99 " * many + "setting")
        self.assertEqual(console.execute("try x 0 1 try - " * 4 + "at 4 0"), "1")
        self.assertEqual(console.execute("setting"), "0 0 0")

    def test_many_statements(self):
        frame = (3, 3)
        console, program = Console(frame), ()
        for seed in range(12):
            for statement in Grown(frame, seed, 20, 9, True).program:
                if len(text_of((statement,))) < 7000 and len(program) < 60:
                    self.assertEqual(console.execute("put " + text_of((statement,))), "ok")
                    program += (statement,)
        self.assertEqual(console.execute("program"), text_of(program))
        easel = Easel(frame, program)
        self.assertEqual(console.execute("shift y 1 -50"), str(area_of(easel.shift("y", 1, -50))))
        for colour in range(1, 10):
            self.assertEqual(console.execute(f"area {colour}"), answer_of(easel, ("area", colour)))

    def test_20_levels(self):
        console = Console(FRAME)
        self.assertEqual(console.execute("put " + text_of(nested(18)[:1])), "ok")
        levels = nested_clips(20)
        self.assertEqual(console.execute("put " + text_of(levels)), "ok")
        self.assertEqual(console.execute("take 1"), text_of(levels))
        text = text_of(nested_clips(21))
        self.expect_error(InvalidText, console, "put " + text, wrong_place(FRAME, text))
        self.expect_error(InvalidText, console, "alike " + text, wrong_place(FRAME, text))

    def test_longer_integers_are_told(self):
        console = Console((1, 1))
        for _ in range(60):
            console.execute("shift x 0 50")
        self.assertEqual(console.execute("setting"), "3000 0")
        self.assertEqual(console.execute("at 999999999 -999999999"), "0")

    def test_consoles_are_independent(self):
        one, other = Console(FRAME), Console(FRAME)
        one.execute("put " + DOT_TEXT), one.execute("shift x 0 1")
        self.assertEqual(other.execute("program"), "-")
        self.assertEqual(other.execute("setting"), "0 0 0")


def nested_clips(levels):
    program = ()
    for _ in range(levels):
        program = (("clip", DOT[1], program),)
    return program


class InvalidCommandTest(ConsoleTestCase):
    def test_other_values(self):
        console = Console(FRAME)
        console.execute("put " + DOT_TEXT)
        for wrong in odd_values() + [["undo"], ("undo",), ["area", 1], b"undo", 5, None, True, console]:
            self.expect_error(InvalidCommand, console, wrong)

    def test_none_of_these_commands(self):
        console = Console(FRAME)
        console.execute("put " + DOT_TEXT)
        for command in (
                "", " ", "  ", "\n", "put", "alike", "try", "try ", "try -", "try - ", "try  undo", "try x", "try x 0",
                "try x 0 1", "try x 0 1 ", "try x 0 undo", "try x 0 1  undo", "try  0 1 undo", "try - - undo",
                "try - 0 1 undo", "try - put", "try - alike", "try - nothing", "try x 0 1 try", "try x 0 1 try -",
                "try x 0 1 undo ", "try x a 1 undo", "try x 0 b undo", "try x 00 1 undo", "try x 0 +1 undo",
                "try x 0 -0 undo", "try x 0 1234567890 undo", "try x 0 1 area", "try x 0 1 area 1 2",
                "try x 0 1 area x",
                "undo ", " undo", "undo 1", "Undo", "UNDO", "undo\n", "undos", "und", "redo", "setting ", "setting x",
                "program ", " program", "program 0", "seen ", "seen 0", "take", "take ", "take x", "take 0 0",
                "take 00",
                "take -0", "take +0", "take  0", "take 0 ", "take 1234567890", "take -1234567890", "take 0.0",
                "take 0\n",
                "shift", "shift x", "shift x 0", "shift x 0 ", "shift x 0 x", "shift x 0 1 1", "shift  0 1",
                "shift x  1", "shift x 0 01", "shift x 01 1", "shift x 0 +1", "shift x 0 -0", "shift x y 1",
                "shift x 0 1234567890", "at", "at 0", "at 0 ", "at 0 x", "at 0 0 0", "at 00 0", "at 0 -0", "at  0 0",
                "at 0  0", "at 0 1234567890", "at -1234567890 0", "at (0, 0)", "at 0,0", "area", "area ", "area x",
                "area 1 1", "area 01", "area +1", "area -0", "area 1234567890", "put\n" + DOT_TEXT, "alike\n",
                "quit", "help", "picture", "neighbours", "fill 0+0 0+1 0+0 0+1 1", "-", "try-", "tries - undo"):
            self.assertIsNone(COMMAND.fullmatch(command), command)
            self.expect_error(InvalidCommand, console, command)
        self.assertEqual(console.execute("undo"), "ok")

    def test_the_space_behind_put_and_alike(self):
        console = Console(FRAME)
        self.assertEqual(console.execute("alike "), "yes")
        self.assertEqual(console.execute("try - alike "), "yes")
        self.expect_error(InvalidCommand, console, "alike")
        self.expect_error(InvalidCommand, console, "put")
        self.expect_error(InvalidText, console, "put ", 0)
        self.expect_error(InvalidText, console, "try - put ", 0)

    def test_changed_commands(self):
        chance = random.Random(71)
        console = Console(FRAME)
        given = ["put " + DOT_TEXT, "undo", "take 0", "shift x 1 -3", "at 2 -1", "area 4", "setting", "program", "seen",
                 "alike " + DOT_TEXT, "alike ", "try x 1 50 undo", "try - program", "try y 0 -1 try - shift x 0 2",
                 "try - try - try x 0 1 area 1"]
        more = ODD_WORDS + ["put", "undo", "take", "shift", "at", "area", "setting", "program", "seen", "alike", "try"]
        told = [0, 0]
        for _ in range(12000):
            words = changed_words(chance, chance.choice(given).split(" "))
            if chance.random() < 0.5:
                at = chance.randrange(len(words) + 1)
                words = words[:at] + [chance.choice(more)] + words[at + chance.randrange(2):]
            command = " ".join(words)
            due = COMMAND.fullmatch(command) is not None
            got = outcome(console.execute, command)
            self.assertEqual(got != (InvalidCommand, None), due, repr(command))
            told[due] += 1
        self.assertGreater(min(told), 1000)


class ErrorsTest(ConsoleTestCase):
    def test_errors_of_the_calls(self):
        console = Console(FRAME)
        console.execute("put " + DOT_TEXT), console.execute("shift x 1 4")
        for error, commands in (
                (InvalidIndex, ("take 1", "take -1", "take 999999999", "try x 0 1 take 1", "try - try - take 2")),
                (InvalidValue, ("shift x 2 1", "shift y 1 1", "shift x -1 1", "shift z 0 1", "shift - 0 1",
                                "shift X 0 1", "shift xy 0 1", "shift x\n 0 1", "shift x 0 51", "shift x 0 -51",
                                "shift x 0 999999999", "shift 0 0 0", "try x 0 51 undo", "try q 0 1 undo",
                                "try try 0 1 undo", "try -- 0 1 undo", "try x 2 0 setting", "try - shift x 0 51",
                                "try x 0 1 try x 0 -51 setting", "try undo 0 1 undo")),
                (InvalidColour, ("area 0", "area 10", "area -1", "area 999999999", "try - area 0",
                                 "try x 0 1 area 10")),
                (NothingToUndo, ("try - undo", "try x 0 1 try - undo"))):
            for command in commands:
                self.assertIsNotNone(COMMAND.fullmatch(command), command)
                self.expect_error(error, console, command)

    def test_places_of_wrong_texts(self):
        console = Console(FRAME)
        console.execute("put " + BLUE_TEXT)
        for text, place in (
                ("", 0), (" ", 0), (DOT_TEXT + " ", 6), (" " + DOT_TEXT, 0), (DOT_TEXT + " " + BLUE_TEXT, 6),
                (DOT_TEXT + " x", 6), ("fill", 1), ("fill 0+0", 2), ("move 0 0 ( ) )", 5), ("move 0 0 (", 4),
                ("move 0 0 ( ) move 0 0 ( )", 5), ("fill 2+0 0+1 0+0 0+1 1", 1), ("x", 0), ("\n", 0), (")", 0),
                ("if x 0+0 1+0 ( " + DOT_TEXT + " " + DOT_TEXT + " ) ( x", 19), ("put " + DOT_TEXT, 0), ("-", 0)):
            self.assertEqual(put_place(FRAME, text), place, text)
            for ahead in ("put ", "try - put ", "try x 1 5 try - put "):
                self.expect_error(InvalidText, console, ahead + text, place)
            place = wrong_place(FRAME, text)
            for ahead in ("alike ", "try - alike ", "try x 1 5 try - alike "):
                if place is None:
                    self.assertIn(console.execute(ahead + text), ("yes", "no"))
                else:
                    self.expect_error(InvalidText, console, ahead + text, place)

    def test_one_statement_is_put(self):
        for statement in MIXED:
            console = Console(FRAME)
            self.assertEqual(console.execute("put " + text_of((statement,))), "ok")
            self.assertEqual(console.execute("take 0"), text_of((statement,)))
            many = len(text_of((statement,)).split(" "))
            for behind in (DOT_TEXT, ")", "", "x", "("):
                self.expect_error(InvalidText, console, "put " + text_of((statement,)) + " " + behind, many)

    def test_changed_texts(self):
        chance = random.Random(72)
        for _ in range(600):
            console, statement = Console(FRAME), chance.choice(MIXED + (DOT, BLUE))
            words = changed_words(chance, text_of((statement,)).split(" "))
            text = " ".join(words)
            place = put_place(FRAME, text)
            due = "ok" if place is None else (InvalidText, place)
            self.assertEqual(outcome(console.execute, "put " + text), due, text)
            self.assertEqual(console.execute("program"), text if place is None else "-")

    def test_the_first_error_is_due(self):
        console = Console(FRAME)
        console.execute("put " + DOT_TEXT)
        for error, command in (
                (InvalidCommand, "try x 0 99 nothing"), (InvalidCommand, "try x 0 99 put"),
                (InvalidCommand, "try x 0 99 take x"), (InvalidCommand, "try x 0 99 try x 0 1"),
                (InvalidCommand, "try z 0 1 try - area 01"), (InvalidValue, "try x 0 99 put x"),
                (InvalidValue, "try x 0 99 put "), (InvalidValue, "try x 0 99 alike x"),
                (InvalidValue, "try z 0 1 take 5"), (InvalidValue, "try z 0 1 area 0"),
                (InvalidValue, "try z 0 1 undo"), (InvalidValue, "try x 0 1 try y 1 1 take 5"),
                (InvalidValue, "try x 0 51 try - shift x 0 1")):
            self.expect_error(error, console, command)
        self.assertEqual(console.execute("undo"), "ok")
        self.expect_error(NothingToUndo, console, "undo")

    def test_an_error_changes_nothing_and_is_no_deed(self):
        console = Console(FRAME)
        console.execute("put " + DOT_TEXT)
        for command in ("shift x 0 51", "take 7", "put x", "try x 0 1 take 7", "try x 0 1 put x", "area 0",
                        "try - undo", "nothing", "alike x"):
            with self.assertRaises(PaintError):
                console.execute(command)
        self.assertEqual(console.execute("undo"), "ok")
        self.expect_error(NothingToUndo, console, "undo")

    def test_huge_integers_are_no_commands(self):
        console = Console(FRAME)
        for command in (f"take {HUGE}", f"at {HUGE} 0", f"area {HUGE}", f"shift x 0 {HUGE}", f"try x {-HUGE} 0 undo"):
            self.expect_error(InvalidCommand, console, command)


if __name__ == "__main__":
    unittest.main()

"""Promise 16: texts of programs and settings, by the conventions [2] and the definitions [3] and [4]."""

import random
import re
import unittest

from tests.samples import (
    FRAMES, HUGE, Grown, box_of, call_both_ways, edge_programs, expect, expect_new_lists, odd_values,
    wide_programs, wrong_frames, wrong_settings)
from tests.test_programs import MIXED, wrong_programs
from unknowncorners.errors import InvalidFrame, InvalidProgram, InvalidSetting, InvalidText
from unknowncorners.programs import count_statements
from unknowncorners.texts import read_program, read_setting, write_program, write_setting

FRAME = (2, 1)
DOT = ("fill", box_of(0, 1, 0, 1), 1)
ODD_WORDS = [
    "", "(", ")", "()", "((", "fill", "clip", "move", "if", "Fill", "FILL", "fil", "fills", "x", "y", "z", "X",
    "xy", "0", "1", "9", "10", "-1", "-9", "-10", "-0", "+0", "+1", "00", "01", "-01", "1.0", "1_0", "a",
    "0+0", "0-0", "0+1", "0-1", "0+9", "0-9", "0+10", "0-10", "0+00", "0+01", "00+1", "01+1", "1+0", "1-9",
    "2+0", "2-3", "3+0", "3-1", "-1+0", "-0+1", "+0+1", "9+9", "10+1", "0+", "0-", "+1", "0", "0++1", "0+-1",
    "0--1", "0+1+1", "0*1", "x+1", "0+x", "1234567890", "123456789+1", "-", "+", "--1", "\n",
    "fill\n", "\nfill", "0+0\n", "0\n", ")\n", "\t", "fill,", "0+0,", "1;", "None", "True",
]


def corner_text(corner):
    number, amount = corner
    return str(number) + ("-" if amount < 0 else "+") + str(abs(amount))


def text_of(program):
    """The text of a program, put together piece by piece."""
    texts = []
    for statement in program:
        word = statement[0]
        text = word
        if word in ("fill", "clip"):
            for corner in statement[1]:
                text += " " + corner_text(corner)
        if word == "fill":
            text += " " + str(statement[2])
        elif word == "move":
            text += " " + str(statement[1]) + " " + str(statement[2])
        elif word == "if":
            text += " " + statement[1] + " " + corner_text(statement[2]) + " " + corner_text(statement[3])
        for inside in {"fill": (), "clip": statement[2:], "move": statement[3:], "if": statement[4:]}[word]:
            text += " ( " + text_of(inside) + " )" if inside else " ( )"
        texts.append(text)
    return " ".join(texts)


PARTS = {"fill": "left right top bottom colour", "clip": "left right top bottom (",
         "move": "amount amount (", "if": "axis"}
SHAPES = {"amount": "0|-?[1-9]", "colour": "[0-9]", "(": "[(]", "axis": "x|y"}


def can_stand(frame, kind, word):
    if kind in SHAPES:
        return re.fullmatch(SHAPES[kind], word) is not None
    many = frame[0] if kind in ("left", "right", "x") else frame[1]
    return re.fullmatch(f"[0-{many - 1}]([+][0-9]|-[1-9])", word) is not None


def wrong_place(frame, text, levels=20):
    """The place of the first wrong word of a program's text, by a stack of what is due; None if there is none."""
    words = text.split(" ") if text else []
    due = [1]
    for place, word in enumerate(words):
        top = due[-1]
        if type(top) is int:
            if word in PARTS and top <= levels:
                due += [(kind, top + 1) for kind in reversed(PARTS[word].split(" "))]
            elif word == ")" and len(due) > 1:
                due.pop()
            else:
                return place
        else:
            kind, level = due.pop()
            if not can_stand(frame, kind, word):
                return place
            if kind == "(":
                due.append(level)
            if kind == "axis":
                due += [("(", level), ("(", level), (word, level), (word, level)]
    return None if due == [1] else len(words)


def wrong_setting_place(frame, text):
    words = text.split(" ")
    for place, word in enumerate(words):
        if place == sum(frame) or not re.fullmatch("0|-?[1-9][0-9]{0,8}", word):
            return place
    return None if len(words) == sum(frame) else len(words)


def programs():
    found = list(edge_programs().values()) + list(wide_programs().values()) + [(FRAME, MIXED)]
    for frame in FRAMES:
        found += [(frame, Grown(frame, seed, 1 + seed).program) for seed in range(8)]
    return found


def nested(levels):
    """A program of so many levels."""
    program = (DOT,) if levels > 0 else ()
    for level in range(levels - 1):
        program = ((("clip", DOT[1], program), DOT), (("move", 9, -9, program),), (
            ("if", "x", (0, 9), (1, -9), program, ()),), (DOT, ("if", "y", (0, 0), (0, 1), (), program)))[level % 4]
    return program


def changed_words(chance, words):
    """Words with one of them replaced, left out, put in, or exchanged with another one."""
    at, way = chance.randrange(len(words) + 1), chance.randrange(6)
    near = chance.choice(ODD_WORDS + words * 2)
    if way == 0:
        return words[:at] + words[at + 1:]
    if way == 1:
        return words[:at]
    if way == 2:
        return words[:at] + [near] + words[at:]
    if way == 3:
        return words[:at] + words[at + 1:at + 2] + words[at:at + 1] + words[at + 2:]
    return words[:at] + [near] + words[at + 1:]


class TextTestCase(unittest.TestCase):
    def expect_place(self, place, reader, frame, text):
        with self.assertRaises(InvalidText, msg=repr(text)[:200]) as caught:
            reader(frame, text)
        self.assertIs(type(caught.exception), InvalidText)
        self.assertEqual(caught.exception.place, place, repr(text)[:200])
        self.assertIs(type(caught.exception.place), int)

    def expect_read(self, frame, text):
        """A text is read as the words say, or the place is due at which they are wrong."""
        place = wrong_place(frame, text)
        if place is None:
            program = read_program(frame, text)
            self.assertEqual(text_of(program), text)
            self.assertEqual(write_program(frame, program), text)
        else:
            self.expect_place(place, read_program, frame, text)
        return place


class WriteProgramTest(TextTestCase):
    def test_against_words_put_together(self):
        for frame, program in programs():
            text = write_program(frame, program)
            self.assertEqual(text, text_of(program))
            self.assertIs(type(text), str)

    def test_told_texts(self):
        box = ((0, 0), (1, 2), (0, -1), (0, 3))
        for program, text in (
                ((), ""),
                ((DOT,), "fill 0+0 0+1 0+0 0+1 1"),
                ((("fill", box, 0), ("fill", box, 9)), "fill 0+0 1+2 0-1 0+3 0 fill 0+0 1+2 0-1 0+3 9"),
                ((("clip", box, ()),), "clip 0+0 1+2 0-1 0+3 ( )"),
                ((("clip", box, (DOT,)), DOT),
                 "clip 0+0 1+2 0-1 0+3 ( fill 0+0 0+1 0+0 0+1 1 ) fill 0+0 0+1 0+0 0+1 1"),
                ((("move", -9, 0, ()), ("move", 0, 9, (("move", 1, -2, ()),))),
                 "move -9 0 ( ) move 0 9 ( move 1 -2 ( ) )"),
                ((("if", "x", (0, 9), (1, -9), (), ()),), "if x 0+9 1-9 ( ) ( )"),
                ((("if", "y", (0, 0), (0, 1), (DOT,), (("if", "x", (0, 0), (1, 0), (), (DOT,)),)),),
                 "if y 0+0 0+1 ( fill 0+0 0+1 0+0 0+1 1 ) "
                 "( if x 0+0 1+0 ( ) ( fill 0+0 0+1 0+0 0+1 1 ) )")):
            self.assertEqual(write_program(FRAME, program), text)
            self.assertEqual(read_program(FRAME, text), program)

    def test_by_position_and_by_name(self):
        call_both_ways(self, write_program, frame=FRAME, program=MIXED)
        call_both_ways(self, write_setting, frame=FRAME, setting=([1, -2], [3]))

    def test_beyond_20_levels(self):
        for levels in (20, 21, 25):
            self.assertEqual(write_program(FRAME, nested(levels)), text_of(nested(levels)))

    def test_wrong_frames_and_programs(self):
        for wrong in wrong_frames():
            for program in ((), MIXED, None):
                expect(self, InvalidFrame, write_program, wrong, program)
        for wrong in odd_values() + wrong_programs(FRAME, MIXED) + [text_of(MIXED)]:
            expect(self, InvalidProgram, write_program, FRAME, wrong)


class ReadProgramTest(TextTestCase):
    def test_what_is_written_is_read_back(self):
        for frame, program in programs():
            told = read_program(frame, text_of(program))
            self.assertEqual(told, program)
            self.assertEqual(repr(told), repr(program))

    def test_by_position_and_by_name(self):
        call_both_ways(self, read_program, frame=FRAME, text=text_of(MIXED))
        call_both_ways(self, read_setting, frame=FRAME, text="1 -2 3")

    def test_the_empty_text(self):
        for frame in FRAMES:
            self.assertEqual(read_program(frame, ""), ())

    def test_all_amounts_moves_and_colours(self):
        for amount in range(-9, 10):
            box = ((2, amount), (0, -amount), (1, amount), (0, amount))
            program = (("clip", box, (("move", amount, -amount, ()),)), ("fill", box, abs(amount)),
                       ("if", "y", (1, amount), (2, -amount), (), ()))
            self.assertEqual(read_program((3, 3), text_of(program)), program)

    def test_levels(self):
        for levels in range(21):
            program = nested(levels)
            self.assertEqual(count_statements(FRAME, program)[1], levels)
            self.assertEqual(read_program(FRAME, text_of(program)), program)
        self.assertGreater(self.expect_read(FRAME, text_of(nested(21))), 20)
        self.expect_read(FRAME, text_of(nested(24)))

    def test_the_first_word_at_the_21st_level(self):
        ahead = "move 0 0 ( " * 20
        self.assertEqual(read_program(FRAME, ahead + ") " * 19 + ")"), nested_moves(20))
        for word in ("fill", "clip", "move", "if", "(", "x", "", "0+0"):
            self.expect_place(80, read_program, FRAME, ahead + word)
            self.expect_place(80, read_program, FRAME, ahead + word + " 0 0 ( " + ") " * 20 + ")")
        self.expect_place(80, read_program, FRAME, ahead[:-1])
        self.expect_place(81, read_program, FRAME, ahead + ")")
        self.expect_place(81, read_program, FRAME, ahead + ") (")
        text = "move 0 0 ( " * 19 + "move 0 0 ( ) move 1 1 ( ) " + ") " * 18 + ")"
        self.assertEqual(count_statements(FRAME, read_program(FRAME, text)), (21, 20))

    def test_many_statements(self):
        program = nested(20) * 8 + (DOT,) * 100
        self.assertGreater(count_statements(FRAME, program)[0], 300)
        self.assertEqual(read_program(FRAME, text_of(program)), program)

    def test_each_odd_word_at_each_place(self):
        for frame in (FRAME, (1, 2), (3, 3)):
            text = text_of(MIXED if frame != (1, 2) else Grown(frame, 5, 3).program)
            words = text.split(" ")
            for place in range(len(words) + 1):
                for word in ODD_WORDS:
                    self.expect_read(frame, " ".join(words[:place] + [word] + words[place + 1:]))
                    self.expect_read(frame, " ".join(words[:place] + [word] + words[place:]))

    def test_missing_words(self):
        for frame, program in programs():
            words = text_of(program).split(" ")
            for place in range(len(words)):
                self.expect_read(frame, " ".join(words[:place]))
                self.expect_read(frame, " ".join(words[:place] + words[place + 1:]))

    def test_words_that_are_changed(self):
        chance = random.Random(61)
        told = [0, 0]
        for _ in range(30):
            for frame, program in programs():
                words = text_of(program).split(" ")
                for _ in range(chance.randint(1, 3)):
                    words = changed_words(chance, words)
                told[self.expect_read(frame, " ".join(words)) is None] += 1
        self.assertGreater(min(told), 50)

    def test_told_places(self):
        dot = "fill 0+0 0+1 0+0 0+1 1"
        for text, place in (
                (" ", 0), (" " + dot, 0), (dot + " ", 6), (dot.replace(" ", "  ", 1), 1), ("\n", 0),
                (dot + "\n", 5), ("\n" + dot, 0), (dot + " x", 6), (dot + " )", 6), (dot + " (", 6), (")", 0),
                ("fill", 1), ("fill ", 1), ("fill 0+0", 2), ("fill 0+0 0+1 0+0 0+1", 5),
                ("fill 2+0 0+1 0+0 0+1 1", 1), ("fill 0+0 2+1 0+0 0+1 1", 2), ("fill 0+0 0+1 1+0 0+1 1", 3),
                ("fill 0+0 0+1 0+0 1+1 1", 4), ("fill 0+0 0+1 0+0 0+1 10", 5), ("fill 0+0 0+1 0+0 0+1 -1", 5),
                ("fill 0+10 0+1 0+0 0+1 1", 1), ("fill 0-10 0+1 0+0 0+1 1", 1), ("fill 0-0 0+1 0+0 0+1 1", 1),
                ("fill 00+0 0+1 0+0 0+1 1", 1), ("fill 0+00 0+1 0+0 0+1 1", 1), ("fill 0 0+1 0+0 0+1 1", 1),
                ("fill 0+0 0+1 0+0 0+1 01", 5), ("fill 0+0 0+1 0+0 0+1 +1", 5), ("fill 0+0 0+1 0+0 0+1 -0", 5),
                ("clip 0+0 0+1 0+0 0+1 1", 5), ("clip 0+0 0+1 0+0 0+1 ()", 5), ("clip 0+0 0+1 0+0 0+1 (", 6),
                ("clip 0+0 0+1 0+0 0+1", 5), ("clip 0+0 0+1 0+0 0+1 ( ) )", 7), ("clip 0+0 0+1 0+0 0+1 ( ( )", 6),
                ("clip 0+0 0+1 0+0 0+1 (  )", 6), ("move 10 0 ( )", 1), ("move -10 0 ( )", 1),
                ("move 0 10 ( )", 2), ("move 0 -0 ( )", 2), ("move +1 0 ( )", 1), ("move 1 0 )", 3),
                ("move 1 0 ( " + dot, 10), ("move 1 0 ( " + dot + " ) )", 11), ("move 1 ( )", 2),
                ("move 1 0 ( 0 )", 4), ("if z 0+0 0+0 ( ) ( )", 1), ("if 0+0 0+0 ( ) ( )", 1),
                ("if y 1+0 0+0 ( ) ( )", 2), ("if x 1+0 2+0 ( ) ( )", 3), ("if x 0+0 0+0 ( )", 6),
                ("if x 0+0 0+0 ( ) )", 6), ("if x 0+0 0+0 ( ) fill", 6), ("if x 0+0 0+0 ( ) ( ) ( )", 8),
                ("if x 0+0 0+0 ( ) ( ", 7), ("Fill 0+0 0+1 0+0 0+1 1", 0), ("fill 0+0 0+1 0+0 0+1 1 fil", 6)):
            self.assertEqual(wrong_place(FRAME, text), place, text)
            self.expect_place(place, read_program, FRAME, text)

    def test_numbers_go_as_far_as_the_frame(self):
        for across, down in FRAMES:
            box = ((across - 1, 0), (across - 1, 1), (down - 1, 0), (down - 1, 1))
            text = text_of((("fill", box, 1), ("if", "y", box[2], box[3], (), ())))
            self.assertEqual(len(read_program((across, down), text)), 2)
            for place in range(1, 5):
                words = text.split(" ")
                words[place] = str(int(words[place][0]) + 1) + words[place][1:]
                self.expect_place(place, read_program, (across, down), " ".join(words))

    def test_what_is_no_string(self):
        for wrong in odd_values() + [MIXED, (DOT,), ["fill"], 0, None, ["1", "2", "3"], ([1, 2], [3])]:
            if type(wrong) is not str:
                self.expect_place(0, read_program, FRAME, wrong)
                self.expect_place(0, read_setting, FRAME, wrong)

    def test_wrong_frames(self):
        for wrong in wrong_frames():
            for text in ("", text_of(MIXED), "x", " "):
                expect(self, InvalidFrame, read_program, wrong, text)
                expect(self, InvalidFrame, read_setting, wrong, text)


def nested_moves(levels):
    program = ()
    for _ in range(levels):
        program = (("move", 0, 0, program),)
    return program


class SettingTest(TextTestCase):
    def test_there_and_back(self):
        chance = random.Random(62)
        for frame in FRAMES * 6:
            setting = tuple([[chance.choice((0, 1, -1, 7, -10, 10, 999999999, -999999999,
                                             chance.randint(-10 ** 9 + 1, 10 ** 9 - 1)))
                              for _ in range(many)] for many in frame])
            text = write_setting(frame, setting)
            self.assertEqual(text, " ".join(map(str, setting[0] + setting[1])))
            told = read_setting(frame, text)
            self.assertEqual(told, setting)
            self.assertEqual(repr(told), repr(setting))

    def test_told_texts(self):
        for frame, setting, text in (
                ((2, 1), ([0, 3], [-1]), "0 3 -1"), ((1, 1), ([0], [0]), "0 0"), ((1, 3), ([4], [5, 6, 7]), "4 5 6 7"),
                ((3, 1), ([4, 5, 6], [7]), "4 5 6 7"), ((2, 2), ([4, 5], [6, 7]), "4 5 6 7")):
            self.assertEqual(write_setting(frame, setting), text)
            self.assertEqual(read_setting(frame, text), setting)

    def test_integers_of_9_and_10_digits(self):
        for value in (999999999, -999999999, 100000000):
            self.assertEqual(read_setting((1, 1), write_setting((1, 1), ([value], [0]))), ([value], [0]))
        for value in (1000000000, -1000000000, HUGE, -HUGE):
            text = write_setting((1, 2), ([0], [value, 1]))
            self.assertEqual(text, f"0 {value} 1")
            self.expect_place(1, read_setting, (1, 2), text)

    def test_wrong_words(self):
        words = ["1", "-2", "3"]
        for place in range(4):
            for odd in ODD_WORDS + ["0000000001", "0123456789", "-1234567890", "12345678", "1 2"]:
                for told in (words[:place] + [odd] + words[place + 1:], words[:place] + [odd] + words[place:]):
                    text = " ".join(told)
                    due = wrong_setting_place(FRAME, text)
                    if due is None:
                        self.assertEqual(write_setting(FRAME, read_setting(FRAME, text)), text)
                    else:
                        self.expect_place(due, read_setting, FRAME, text)

    def test_told_places(self):
        for text, place in (
                ("", 0), (" ", 0), ("1", 1), ("1 2", 2), ("1 2 3 4", 3), ("1 2 3 x", 3), ("1 2 3 ", 3), (" 1 2 3", 0),
                ("1  2 3", 1), ("1 2 -0", 2), ("1 02 3", 1), ("+1 2 3", 0), ("1 2 3\n", 2), ("1\n2 3", 0),
                ("1 2 1234567890", 2), ("x", 0), ("1 x", 1), ("1 2 ", 2), ("-", 0), ("1 - 3", 1), ("1 --2 3", 1)):
            self.assertEqual(wrong_setting_place(FRAME, text), place)
            self.expect_place(place, read_setting, FRAME, text)

    def test_the_lists_are_new(self):
        expect_new_lists(self, read_setting, FRAME, "1 2 3")
        setting = ([1, 2], [3])
        text = write_setting(FRAME, setting)
        setting[0].clear()
        self.assertEqual(read_setting(FRAME, text), ([1, 2], [3]))

    def test_wrong_settings(self):
        for wrong in wrong_frames():
            for setting in (([0, 0], [0]), None):
                expect(self, InvalidFrame, write_setting, wrong, setting)
        for wrong in wrong_settings() + ["0 0 0"]:
            expect(self, InvalidSetting, write_setting, FRAME, wrong)


if __name__ == "__main__":
    unittest.main()

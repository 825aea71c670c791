"""Promises 1 and 2 over the whole program: paintings, easels, texts and a console together."""

import copy
import random
import unittest

from tests.samples import (
    FRAMES, ONE, OTHER, Grown, box_of, colours, edge_programs, framed_cells, lists_in, objects,
    small_programs, wide_programs)
from tests.test_alike import changed
from tests.test_easels import area_of, make, random_shift
from tests.test_painting import some_setting
from unknowncorners.alike import alike, least_facts, parting
from unknowncorners.console import Console
from unknowncorners.easels import CarefulCountingEasel, CarefulEasel, CountingEasel, Easel
from unknowncorners.errors import Impossible, InvalidText, NothingToUndo, PaintError
from unknowncorners.painting import area, look, picture, repaint
from unknowncorners.paintings import Painting
from unknowncorners.programs import fills
from unknowncorners.seen import idle, least_parts, looks, needless, seen, seen_at
from unknowncorners.settings import closed, least_setting, plain, ring
from unknowncorners.texts import read_program, read_setting, write_program, write_setting

FRAME = (2, 1)
DOT = ("fill", box_of(0, 1, 0, 1), 1)
BLUE = ("fill", box_of(0, 2, -1, 1, 1), 2)


def paintings():
    """Frames and programs of all kinds that have texts."""
    found = list(edge_programs().values()) + list(wide_programs().values())
    for frame in FRAMES:
        found += [(frame, Grown(frame, seed, 1 + seed, 3, True).program) for seed in range(6)]
    return found


class TogetherTest(unittest.TestCase):
    def test_written_read_put_on_a_console_and_painted(self):
        chance = random.Random(81)
        for frame, program in paintings():
            text = write_program(frame, program)
            again = read_program(frame, text)
            console, easel, painting = Console(frame), Easel(frame, again), Painting(frame)
            for statement in again:
                self.assertEqual(console.execute("put " + write_program(frame, (statement,))), "ok")
                painting += (statement,)
            self.assertEqual(console.execute("program"), text or "-")
            self.assertEqual(painting.program, program)
            for _ in range(3):
                axis, number, by = random_shift(chance, frame)
                told = easel.shift(axis, number, by)
                self.assertEqual(console.execute(f"shift {axis} {number} {by}"), str(area_of(told)))
            setting = read_setting(frame, console.execute("setting"))
            self.assertEqual(setting, easel.setting)
            self.assertEqual(write_setting(frame, easel.setting), console.execute("setting"))
            told = list(painting.steps(setting))[-1]
            self.assertEqual(told, easel.picture)
            self.assertEqual(told, picture(frame, read_program(frame, text), setting))
            self.assertEqual(told[2], look(frame, program, setting))
            for x, y in [(0, 0)] + [(x, y) for x in told[0] for y in told[1]][:9]:
                self.assertEqual(console.execute(f"at {x} {y}"), str(painting(setting, (x, y))))
            for colour in range(1, 10):
                self.assertEqual(console.execute(f"area {colour}"), str(area(frame, program, setting, colour)))

    def test_what_parts_paintings(self):
        chance = random.Random(82)
        for frame, program in small_programs(120):
            one, other = Painting(frame, *program), Painting(frame, *changed(chance, frame, program))
            told = parting(frame, one.program, other.program)
            self.assertIs(one == other, told is None)
            if told is not None:
                setting, cell = told
                self.assertNotEqual(one(setting, cell), other(setting, cell))
                self.assertEqual(plain(frame, setting), setting)
                console = Console(frame)
                for statement in one.program:
                    console.execute("put " + write_program(frame, (statement,)))
                due = "no" if one != other else "yes"
                self.assertEqual(console.execute("alike " + write_program(frame, other.program)), due)

    def test_what_is_seen(self):
        for frame, program in small_programs(80):
            painting = Painting(frame, *program)
            stays = [k for k in seen(frame, program) if fills(frame, program)[k][2] > 0]
            self.assertIs(bool(painting), len(stays) > 0)
            for k in stays:
                setting, cell = seen_at(frame, program, k)
                self.assertEqual(painting(setting, cell), fills(frame, program)[k][2])
            for k in needless(frame, program):
                self.assertTrue(painting == Painting(frame, *program[:k], *program[k + 1:]))
            for part in least_parts(frame, program[:4]):
                self.assertTrue(Painting(frame, *program[:4]) == Painting(frame, *[program[k] for k in part]))

    def test_looks_of_easels(self):
        chance = random.Random(83)
        for frame, program in small_programs(60):
            told, easel = looks(frame, program), Easel(frame, program)
            for _ in range(6):
                easel.shift(*random_shift(chance, frame))
                self.assertIn(easel.picture[2], told)

    def test_what_does_not_matter_is_not_painted_anew(self):
        found = 0
        for frame, program in small_programs(120):
            for axis, numbers in zip("xy", idle(frame, program)):
                easel = CountingEasel(frame, program)
                for number in numbers:
                    for by in (1, -1, 3, -50):
                        self.assertEqual(easel.shift(axis, number, by), ([], [], []))
                        found += 1
                self.assertEqual(easel.cells, 0)
        self.assertGreater(found, 20)

    def test_careful_easels_stay_where_facts_make_alike(self):
        wishes = [("x", 1, 0, 2), ("x", 0, 1, -2), ("y", 0, 0, 0)]
        self.assertEqual(least_facts(FRAME, ONE, OTHER, wishes), [[0, 1]])
        easel, twin = CarefulEasel(FRAME, ONE, wishes[:2]), CarefulEasel(FRAME, OTHER, wishes[:2])
        chance = random.Random(84)
        moved = 0
        for _ in range(200):
            shift = random_shift(chance, FRAME)
            try:
                easel.shift(*shift)
                twin.shift(*shift)
                moved += 1
            except Impossible:
                self.assertEqual(shift[0], "x")
            self.assertEqual(easel.picture, twin.picture)
        self.assertGreater(moved, 20)

    def test_a_move_is_a_shift_of_all(self):
        chance = random.Random(85)
        for frame, program in paintings():
            setting = some_setting(chance, frame)
            across, down = chance.randint(-9, 9), chance.randint(-9, 9)
            easel = Easel(frame, Painting(frame, *program).moved(across, down).program)
            later = ([value + across for value in setting[0]], [value + down for value in setting[1]])
            self.assertEqual(picture(frame, easel.program, setting), picture(frame, program, later))
            self.assertEqual(easel.picture, picture(
                frame, program, ([across] * frame[0], [down] * frame[1])))

    def test_closed_settings_keep_the_look(self):
        chance = random.Random(86)
        for frame, program in paintings():
            setting = some_setting(chance, frame, 90)
            painting = Painting(frame, *program)
            due = list(painting.steps(setting))[-1][2]
            self.assertEqual(list(painting.steps(closed(frame, setting, (40, 40))))[-1][2], due)


class TellingTest(unittest.TestCase):
    """What is told can be told back, and changes nothing."""

    def test_what_is_told_can_be_passed_back(self):
        easel = CarefulCountingEasel(FRAME, (DOT, BLUE), [("x", 1, 0, 2)])
        easel.shift("x", 1, 3)
        other = make(CarefulCountingEasel, easel.frame, easel.program, easel.facts)
        self.assertEqual(other.setting, least_setting(easel.frame, easel.facts))
        self.assertEqual(picture(easel.frame, easel.program, easel.setting), easel.picture)
        painting = Painting(easel.frame, *easel.program)
        self.assertEqual(painting(easel.setting, (0, 0)), 2)
        self.assertEqual(painting[0], easel.take(0))
        easel.put(painting[0])
        self.assertEqual(easel.program, (painting[1], painting[0]))
        self.assertEqual(repaint(easel.frame, easel.program, *[easel.setting] * 2), ([], [], []))

    def test_settings_that_are_passed_are_not_kept(self):
        painting, setting = Painting(FRAME, DOT, BLUE), ([0, 3], [0])
        told = [painting(setting, (0, 0)), list(painting.steps(setting)), write_setting(FRAME, setting)]
        self.assertEqual(setting, ([0, 3], [0]))
        setting[0][1] = 9
        self.assertEqual(told, [painting(([0, 3], [0]), (0, 0)), list(painting.steps(([0, 3], [0]))), "0 3 0"])

    def test_lists_that_are_told_are_new(self):
        easel = CarefulCountingEasel(FRAME, (DOT, BLUE), [("x", 1, 0, 2)])
        painting = Painting(FRAME, DOT, BLUE)
        setting = ([0, 3], [0])
        for tell in (lambda: easel.setting, lambda: easel.picture, lambda: easel.facts,
                     lambda: easel.twin().facts, lambda: easel.twin().setting,
                     lambda: easel.tried([("x", 1, 1), ("x", 1, 0), ("y", 0, 2)]),
                     lambda: list(painting.steps(setting)), lambda: read_setting(FRAME, "0 3 0"),
                     lambda: [make(CarefulEasel, FRAME, (DOT,), easel.facts).setting]):
            told = tell()
            kept = copy.deepcopy(told)
            lists = lists_in(told)
            self.assertEqual(len({id(row) for row in lists}), len(lists))
            for row in lists:
                row.append("changed")
            self.assertEqual(tell(), kept)
        self.assertEqual(setting, ([0, 3], [0]))

    def test_equal_calls_have_equal_results(self):
        for frame, program in paintings()[::3]:
            for _ in range(2):
                one, other = Painting(frame, *program), Painting(frame, *copy.deepcopy(program))
                self.assertEqual(one.program, other.program)
                self.assertEqual(write_program(frame, one.program), write_program(frame, other.program))
                self.assertEqual(Easel(frame, program).picture, Easel(frame, other.program).picture)

    def test_objects_are_no_parts_of_anything(self):
        for value in objects():
            self.assertIs(value in Painting((1, 1), DOT), False)
            for act in (lambda one: Painting(one), lambda one: Painting((1, 1), one), lambda one: Easel(one, ()),
                        lambda one: Easel((1, 1), one), lambda one: Easel((1, 1), ()).put(one),
                        lambda one: Easel((1, 1), ()).take(one), lambda one: Easel((1, 1), ()).tried(one),
                        lambda one: Easel((1, 1), ()).tried([one]), lambda one: Easel((1, 1), ()).shift("x", 0, one),
                        lambda one: Easel((1, 1), ()).shift("x", one, 0),
                        lambda one: Easel((1, 1), ()).shift(one, 0, 0),
                        lambda one: CarefulEasel((1, 1), (), one), lambda one: CarefulEasel((1, 1), (), [one]),
                        lambda one: Console(one), lambda one: Console((1, 1)).execute(one),
                        lambda one: write_program((1, 1), one), lambda one: write_setting((1, 1), one),
                        lambda one: read_program(one, ""), lambda one: Painting((1, 1)).moved(one),
                        lambda one: Painting((1, 1)).clipped(one), lambda one: Painting.of_boxes((1, 1), one),
                        lambda one: Painting((1, 1))(one, (0, 0)), lambda one: Painting((1, 1))(([0], [0]), one),
                        lambda one: list(Painting((1, 1)).steps(one)), lambda one: Painting((1, 1), DOT)[one],
                        lambda one: ring((1, 1), one), lambda one: alike((1, 1), (), (), one)):
                with self.assertRaises(PaintError):
                    act(value)


class SameDeedsTest(unittest.TestCase):
    def test_on_an_easel_a_console_and_a_painting(self):
        chance = random.Random(87)
        for seed, frame in enumerate(FRAMES * 2):
            easel, console, painting, past = Easel(frame, ()), Console(frame), Painting(frame), []
            for k in range(8):
                statement = (Grown(frame, 100 * seed + k, 2, 3, True).program or (DOT,))[0]
                past.append((easel.program, easel.setting))
                easel.put(statement)
                console.execute("put " + write_program(frame, (statement,)))
                painting += (statement,)
                shift = random_shift(chance, frame)
                past.append((easel.program, easel.setting))
                told = easel.shift(*shift)
                words = " ".join(map(str, shift))
                self.assertEqual(console.execute(f"try {words} setting"), write_setting(frame, easel.setting))
                self.assertEqual(console.execute(f"shift {words}"), str(area_of(told)))
                self.assertEqual(easel.picture, framed_cells(colours(painting.program, easel.setting)))
            while past:
                program, setting = past.pop()
                easel.undo()
                console.execute("undo")
                self.assertEqual((easel.program, easel.setting), (program, setting))
                self.assertEqual(console.execute("program"), write_program(frame, program) or "-")
                self.assertEqual(console.execute("setting"), write_setting(frame, setting))
            for act in (easel.undo, lambda: console.execute("undo")):
                with self.assertRaises(NothingToUndo):
                    act()

    def test_an_error_inside_of_try_and_of_a_block(self):
        easel, console = Easel(FRAME, ()), Console(FRAME)
        easel.put(DOT)
        console.execute("put " + write_program(FRAME, (DOT,)))
        with self.assertRaises(InvalidText):
            with easel.trying():
                easel.shift("x", 0, 5)
                easel.put(read_program(FRAME, "fill 0+0")[0])
        with self.assertRaises(InvalidText):
            console.execute("try x 0 5 put fill 0+0")
        self.assertEqual((easel.program, easel.setting, easel.deeds), ((DOT,), ([0, 0], [0]), 1))
        self.assertEqual(console.execute("program"), write_program(FRAME, easel.program))
        self.assertEqual(console.execute("setting"), write_setting(FRAME, easel.setting))


if __name__ == "__main__":
    unittest.main()

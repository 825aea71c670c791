"""Promise 11: the painting, by the conventions [2] and the definitions [3] and [4]."""

import random
import unittest

from tests.samples import (
    FRAMES, HUGE, ONE, OTHER, Grown, box_of, call_both_ways, colours, edge_programs, expect,
    expect_new_lists, framed_cells, odd_values, unlike_integers, wide_programs, wrong_frames,
    wrong_settings)
from tests.test_programs import MIXED, wrong_programs
from unknowncorners.errors import (
    InvalidCell, InvalidColour, InvalidFrame, InvalidProgram, InvalidSetting)
from unknowncorners.painting import area, colour_at, look, picture, repaint
from unknowncorners.programs import reach
from unknowncorners.settings import closed

FRAME = (2, 1)
SETTING = ([0, 3], [1])
BARE = ([], [], [])
# Each function of the module, with good arguments behind the frame and the program.
CALLS = {
    colour_at: (SETTING, (0, 0)),
    picture: (SETTING,),
    area: (SETTING, 1),
    repaint: (SETTING, ([1, 2], [0])),
    look: (SETTING,),
}


def some_setting(chance, frame, most=4):
    return tuple([[chance.randint(-most, most) for _ in range(many)] for many in frame])


def many_paintings():
    """Frames, programs and settings: edges, and grown ones on all frames."""
    chance = random.Random(11)
    for frame, program in list(edge_programs().values()) + list(wide_programs().values()):
        yield frame, program, tuple([[0] * many for many in frame])
        for most in (1, 3, 6):
            yield frame, program, some_setting(chance, frame, most)
    for frame in FRAMES:
        for seed in range(24):
            program = Grown(frame, seed, 1 + seed // 8, 3, seed > 7).program
            yield frame, program, some_setting(chance, frame)


def moved_far(setting, across, down):
    return [value + across for value in setting[0]], [value + down for value in setting[1]]


def wrong_cells():
    found = odd_values() + [(), (1,), (1, 1, 1), [1, 1], ([1, 1],), ((1, 1),), "11", ([], []),
                            ([1], [1]), ((1,), 1), (1, (1,))]
    for wrong in unlike_integers(0) + unlike_integers(1):
        found += [(wrong, 1), (1, wrong)]
    return found


def wrong_colours():
    """Values that are no colour, and 0, of which there is no area."""
    integers = [value for value in odd_values() if value != 1 or type(value) is not int]
    return integers + unlike_integers(0) + unlike_integers(5) + [0, 10, 11, -5, "1", [1], (1,)]


class PictureTest(unittest.TestCase):
    def test_against_going_through_all_cells(self):
        seen = set()
        for frame, program, setting in many_paintings():
            told = call_both_ways(self, picture, frame=frame, program=program, setting=setting)
            due = framed_cells(colours(program, setting))
            self.assertEqual(told, due, (frame, program, setting))
            self.assertEqual([type(part) for part in told], [list] * 3)
            seen.add(len(told[0]))
        self.assertGreater(len(seen), 6)

    def test_the_example(self):
        for program in (ONE, OTHER):
            self.assertEqual(picture((2, 1), program, ([0, 2], [0])), ([0, 2], [0, 1], [[1]]))
        self.assertEqual(picture((2, 1), ONE, ([0, 0], [0])), BARE)
        self.assertEqual(picture((2, 1), OTHER, ([0, 0], [0])), ([0, 2], [0, 1], [[1]]))

    def test_all_bare(self):
        for name in ("empty", "without cells", "bare alone", "bare over all", "empty clips"):
            frame, program = edge_programs()[name]
            self.assertEqual(picture(frame, program, ([0, 1], [0])), BARE, name)

    def test_told_pictures(self):
        frame, program = edge_programs()["bare over a part"]
        self.assertEqual(picture(frame, program, ([0, 0], [0])),
                         ([-1, 0, 1, 2], [0, 1, 2], [[9, 0, 9], [9, 9, 9]]))
        ring = (("fill", box_of(0, 3, 0, 3), 9), ("fill", box_of(1, 2, 1, 2), 0))
        self.assertEqual(picture((1, 1), ring, ([-7], [4])),
                         ([-7, -6, -5, -4], [4, 5, 6, 7], [[9, 9, 9], [9, 0, 9], [9, 9, 9]]))
        apart = (("fill", box_of(0, 1, 0, 1), 4), ("fill", box_of(5, 6, 3, 4), 4))
        self.assertEqual(picture((1, 1), apart, ([0], [0])),
                         ([0, 1, 5, 6], [0, 1, 3, 4], [[4, 0, 0], [0, 0, 0], [0, 0, 4]]))

    def test_no_edge_where_colours_are_alike(self):
        halves = (("fill", box_of(0, 2, 0, 1), 3), ("fill", box_of(2, 4, 0, 1), 3))
        self.assertEqual(picture((1, 1), halves, ([0], [0])), ([0, 4], [0, 1], [[3]]))
        covered = (("fill", box_of(1, 2, 1, 2), 5), ("fill", box_of(0, 4, 0, 4), 3))
        self.assertEqual(picture((1, 1), covered, ([0], [0])), ([0, 4], [0, 4], [[3]]))
        trimmed = (("fill", box_of(0, 5, 0, 5), 3), ("fill", box_of(4, 9, -9, 9), 0))
        self.assertEqual(picture((1, 1), trimmed, ([0], [0])), ([0, 4], [0, 5], [[3]]))

    def test_a_test_is_taken_below_and_not_for_equal_values(self):
        program = (("if", "x", (0, 1), (1, 0), (("fill", box_of(0, 1, 0, 1), 1),),
                    (("fill", box_of(0, 1, 0, 1), 2),)),)
        for value, due in ((-5, 2), (0, 2), (1, 2), (2, 1), (3, 1), (HUGE, 1), (-HUGE, 2)):
            self.assertEqual(look((2, 1), program, ([0, value], [0])), [[due]])

    def test_values_of_many_digits_move_the_picture(self):
        for frame, program, setting in many_paintings():
            columns, rows, told = picture(frame, program, setting)
            far = moved_far(setting, HUGE - 9, 9 - HUGE)
            due = [x + HUGE - 9 for x in columns], [y + 9 - HUGE for y in rows], told
            self.assertEqual(picture(frame, program, far), due)

    def test_values_far_apart(self):
        program = (("fill", ((0, 0), (1, 0), (0, 0), (1, 0)), 1),
                   ("fill", ((1, -1), (2, 0), (0, 1), (1, -1)), 9))
        self.assertEqual(picture((3, 2), program, ([-HUGE, 0, HUGE], [-5, HUGE])),
                         ([-HUGE, -1, 0, HUGE], [-5, -4, HUGE - 1, HUGE],
                          [[1, 1, 0], [1, 9, 9], [1, 1, 0]]))

    def test_the_lists_are_new(self):
        for frame, program in edge_programs().values():
            expect_new_lists(self, picture, frame, program, tuple([[2] * many for many in frame]))
        expect_new_lists(self, picture, (2, 1), MIXED, SETTING)


class ColourAtTest(unittest.TestCase):
    def test_against_going_through_all_cells(self):
        for frame, program, setting in many_paintings():
            due = colours(program, setting)
            for x, y in [(-7, 0), (0, -7), (0, 0), (-1, 1), (2, 1), (1, 2), *sorted(due)[:12]]:
                told = call_both_ways(self, colour_at, frame=frame, program=program,
                                      setting=setting, cell=(x, y))
                self.assertEqual(told, due.get((x, y), 0))
                self.assertIs(type(told), int)

    def test_the_sides_of_a_box(self):
        for x in range(-2, 6):
            for y in range(-3, 5):
                due = 1 if 0 <= x < 2 and 0 <= y < 1 else 0
                for program in (ONE, OTHER):
                    self.assertEqual(colour_at((2, 1), program, ([0, 2], [0]), (x, y)), due)

    def test_cells_of_many_digits(self):
        program = (("fill", ((0, 0), (1, 0), (0, 0), (0, 1)), 7),)
        setting = ([-HUGE, HUGE], [HUGE])
        for x, due in ((-HUGE, 7), (HUGE, 0), (HUGE - 1, 7), (0, 7), (-HUGE - 1, 0)):
            self.assertEqual(colour_at((2, 1), program, setting, (x, HUGE)), due)
            self.assertEqual(colour_at((2, 1), program, setting, (x, -HUGE)), 0)
        self.assertEqual(colour_at((2, 1), (), setting, (HUGE, -HUGE)), 0)


class AreaTest(unittest.TestCase):
    def test_against_counting_all_cells(self):
        for frame, program, setting in many_paintings():
            there = list(colours(program, setting).values())
            for colour in range(1, 10):
                told = call_both_ways(self, area, frame=frame, program=program, setting=setting,
                                      colour=colour)
                self.assertEqual(told, there.count(colour))
                self.assertIs(type(told), int)

    def test_areas_of_many_digits(self):
        program = (("fill", ((0, 0), (1, 0), (0, 0), (1, 0)), 1), ("fill", box_of(0, 2, 0, 3), 9))
        setting = ([-HUGE, HUGE], [0, HUGE])
        self.assertEqual(area((2, 2), program, setting, 1), 2 * HUGE * HUGE - 6)
        self.assertEqual(area((2, 2), program, setting, 9), 6)
        self.assertEqual(area((2, 2), program, setting, 8), 0)


class RepaintTest(unittest.TestCase):
    def due(self, program, setting, later):
        before, behind = colours(program, setting), colours(program, later)
        return framed_cells({cell: 1 for cell in set(before) | set(behind)
                             if before.get(cell, 0) != behind.get(cell, 0)})

    def test_against_going_through_all_cells(self):
        chance = random.Random(12)
        for frame, program, setting in many_paintings():
            later = some_setting(chance, frame)
            told = call_both_ways(self, repaint, frame=frame, program=program, setting=setting,
                                  later=later)
            self.assertEqual(told, self.due(program, setting, later))

    def test_one_unknown_alone(self):
        chance = random.Random(13)
        for frame, program, setting in many_paintings():
            later = (list(setting[0]), list(setting[1]))
            values = chance.choice(later)
            values[chance.randrange(len(values))] += chance.choice((-2, -1, 1, 2))
            self.assertEqual(repaint(frame, program, setting, later),
                             self.due(program, setting, later))

    def test_a_setting_with_itself(self):
        for frame, program, setting in many_paintings():
            self.assertEqual(repaint(frame, program, setting, setting), BARE)
            self.assertEqual(repaint(frame, program, setting, (list(setting[0]), list(setting[1]))),
                             BARE)

    def test_told_repaints(self):
        self.assertEqual(repaint((2, 1), ONE, ([0, 2], [0]), ([0, 5], [0])),
                         ([2, 5], [0, 1], [[1]]))
        self.assertEqual(repaint((2, 1), ONE, ([0, 2], [0]), ([1, 3], [0])),
                         ([0, 1, 2, 3], [0, 1], [[1, 0, 1]]))
        self.assertEqual(repaint((2, 1), ONE, ([0, 2], [0]), ([0, 2], [HUGE])),
                         ([0, 2], [0, 1, HUGE, HUGE + 1], [[1], [0], [1]]))

    def test_another_fill_of_the_same_colour(self):
        program = (("fill", box_of(0, 4, 0, 1), 5), ("fill", ((1, 0), (1, 1), (0, 0), (0, 1)), 5))
        self.assertEqual(repaint((2, 1), program, ([0, 1], [0]), ([0, 2], [0])), BARE)
        unlike = program[:1] + (("fill", program[1][1], 0),)
        self.assertEqual(repaint((2, 1), unlike, ([0, 1], [0]), ([0, 2], [0])),
                         ([1, 3], [0, 1], [[1]]))

    def test_the_lists_are_new(self):
        expect_new_lists(self, repaint, (2, 1), ONE, ([0, 2], [0]), ([1, 3], [0]))
        expect_new_lists(self, repaint, (2, 1), MIXED, SETTING, SETTING)
        row = [1]
        expect_new_lists(self, repaint, (1, 1), (), (row, row), (row, row))


class LookTest(unittest.TestCase):
    def test_it_is_a_part_of_the_picture(self):
        for frame, program, setting in many_paintings():
            told = call_both_ways(self, look, frame=frame, program=program, setting=setting)
            self.assertEqual(told, framed_cells(colours(program, setting))[2])

    def test_it_stays_for_a_closed_setting(self):
        chance = random.Random(14)
        for frame, program, setting in many_paintings():
            far = some_setting(chance, frame, 200)
            widths = [min(width, 40) for width in reach(frame, program)]
            if tuple(widths) == reach(frame, program):
                near = closed(frame, far, tuple(widths))
                self.assertEqual(look(frame, program, near), look(frame, program, far))

    def test_the_lists_are_new(self):
        expect_new_lists(self, look, (2, 1), ONE, ([0, 2], [0]))
        expect_new_lists(self, look, (2, 1), (), ([0, 2], [0]))


class WrongArgumentsTest(unittest.TestCase):
    def test_wrong_frames(self):
        for frame in wrong_frames():
            for function, others in CALLS.items():
                expect(self, InvalidFrame, function, frame, ONE, *others)
            expect(self, InvalidFrame, picture, frame, None, None)
            expect(self, InvalidFrame, repaint, frame, ONE, SETTING, None)

    def test_wrong_programs(self):
        for program in odd_values() + wrong_programs(FRAME, MIXED[2:4]):
            for function, others in CALLS.items():
                expect(self, InvalidProgram, function, FRAME, program, *others)
        for function, others in CALLS.items():
            wrong = [None] * len(others)
            expect(self, InvalidProgram, function, FRAME, [ONE[0]], *wrong)
            expect(self, InvalidProgram, function, (1, 1), ONE, *others)

    def test_wrong_settings(self):
        for setting in wrong_settings():
            for function, others in CALLS.items():
                expect(self, InvalidSetting, function, FRAME, ONE, setting, *others[1:])
                wrong = [None] * len(others[1:])
                expect(self, InvalidSetting, function, FRAME, ONE, setting, *wrong)
            expect(self, InvalidSetting, repaint, FRAME, ONE, SETTING, setting)

    def test_wrong_cells(self):
        for cell in wrong_cells():
            expect(self, InvalidCell, colour_at, FRAME, ONE, SETTING, cell)

    def test_wrong_colours(self):
        for colour in wrong_colours():
            expect(self, InvalidColour, area, FRAME, ONE, SETTING, colour)

    def test_errors_by_name(self):
        with self.assertRaises(InvalidSetting):
            colour_at(cell=None, setting=None, program=(), frame=FRAME)
        with self.assertRaises(InvalidCell):
            colour_at(cell=[0, 0], setting=SETTING, program=(), frame=FRAME)
        with self.assertRaises(InvalidProgram):
            area(colour=0, setting=None, program=None, frame=FRAME)
        with self.assertRaises(InvalidSetting):
            repaint(later=None, setting=SETTING, program=(), frame=FRAME)
        with self.assertRaises(InvalidFrame):
            look(setting=None, program=None, frame=None)


if __name__ == "__main__":
    unittest.main()

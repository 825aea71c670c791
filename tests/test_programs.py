"""Promise 9: frames and programs, by the conventions [2] and the definitions [3] to [5]."""

import unittest

from tests.samples import (
    FRAMES, HUGE, Grown, call_both_ways, expect, expect_new_lists, odd_values, unlike_integers,
    wrong_frames)
from unknowncorners.errors import InvalidFrame, InvalidProgram, InvalidText, PaintError
from unknowncorners.programs import (
    corners_of, count_statements, fills, is_frame, is_program, reach)

READERS = (count_statements, fills, reach, corners_of)

BOX = ((0, 0), (1, 2), (0, -1), (0, 3))
FILL = ("fill", BOX, 5)
# One statement of each kind, and one inside of another.
MIXED = (
    FILL,
    ("clip", BOX, (("fill", BOX, 0), FILL)),
    ("move", 3, -2, (FILL, ("clip", BOX, ()), ("move", -1, 1, (FILL,)))),
    ("if", "x", (0, 1), (1, -4), (FILL,), ()),
    ("if", "y", (0, 9), (0, -9), (), (("if", "x", (1, 0), (1, 0), (), (FILL,)),)),
)


def wrong_words():
    return ["Fill", "fil", "fills", "", " fill", "paint", "x", None, True, 0, ("fill",), ["fill"],
            InvalidText(1)]


def wrong_integers(value, least, most):
    return unlike_integers(value) + [least - 1, most + 1, HUGE, -HUGE]


def wrong_tuples(value):
    """Wrong values for a tuple of a fixed length, and for what is none."""
    return [list(value), value[:-1], value[1:], value + (0,), value + value[-1:], (), [], (value,),
            None, True, 0, "fill", PaintError("x")]


def put_in(value, place, item):
    return value[:place] + (item,) + value[place + 1:]


def wrong_corners(many, corner):
    number, amount = corner
    return (wrong_tuples(corner)
            + [(wrong, amount) for wrong in wrong_integers(number, 0, many - 1)]
            + [(number, wrong) for wrong in wrong_integers(amount, -9, 9)])


def wrong_boxes(frame, box):
    found = wrong_tuples(box)
    for place, many in enumerate((frame[0], frame[0], frame[1], frame[1])):
        for wrong in wrong_corners(many, box[place]):
            found.append(put_in(box, place, wrong))
    return found


def wrong_parts(frame, statement):
    """For each place of the statement a list of wrong values."""
    word = statement[0]
    if word == "fill":
        return [wrong_boxes(frame, statement[1]), wrong_integers(statement[2], 0, 9)]
    if word == "clip":
        return [wrong_boxes(frame, statement[1]), wrong_programs(frame, statement[2])]
    if word == "move":
        return [wrong_integers(statement[1], -9, 9), wrong_integers(statement[2], -9, 9),
                wrong_programs(frame, statement[3])]
    many = frame["xy".index(statement[1])]
    axes = ["z", "X", "", "xy", "yx", None, True, 0, ("x",), ["x"], InvalidText(1)]
    return [axes, wrong_corners(many, statement[2]), wrong_corners(many, statement[3]),
            wrong_programs(frame, statement[4]), wrong_programs(frame, statement[5])]


def wrong_statements(frame, statement):
    found = wrong_tuples(statement)
    for word in wrong_words() + ["fill", "clip", "move", "if"]:
        if word != statement[0]:
            found.append(put_in(statement, 0, word))
    for place, wrongs in enumerate(wrong_parts(frame, statement)):
        for wrong in wrongs:
            found.append(put_in(statement, place + 1, wrong))
    return found


def wrong_programs(frame, program):
    """The program with one wrong thing at each place and depth."""
    found = [list(program), None, True, 0, 5, "", "x", [], (None,), ((),), (program, 0), FILL]
    for wrong in (None, 0, (), "fill", [], list(FILL), ("fill",)):
        found += [program + (wrong,), (wrong,) + program]
    for place, statement in enumerate(program):
        for wrong in wrong_statements(frame, statement):
            found.append(put_in(program, place, wrong))
    return found


def nested(levels, inside=()):
    """A program that stands so many levels deep, one statement on each."""
    made = inside
    for level in range(levels):
        made = ((("clip", BOX, made),), (("move", 1, -1, made),),
                (("if", "x", (0, 0), (1, 0), (), made),))[level - level // 3 * 3]
    return made


class IsFrameTest(unittest.TestCase):
    def test_the_nine_frames(self):
        for across in range(-2, 7):
            for down in range(-2, 7):
                due = 1 <= across <= 3 and 1 <= down <= 3
                self.assertIs(call_both_ways(self, is_frame, value=(across, down)), due)

    def test_other_values(self):
        for value in wrong_frames():
            with self.subTest(str(value)[:60]):
                self.assertIs(is_frame(value), False)


class IsProgramTest(unittest.TestCase):
    def test_the_empty_program(self):
        for frame in FRAMES:
            self.assertIs(call_both_ways(self, is_program, frame=frame, value=()), True)

    def test_grown_programs(self):
        for frame in FRAMES:
            for seed in range(20):
                program = Grown(frame, seed).program
                self.assertIs(call_both_ways(self, is_program, frame=frame, value=program), True)

    def test_numbers_go_as_far_as_the_frame(self):
        for across, down in FRAMES:
            for number in range(-1, 4):
                for place in range(4):
                    many = across if place < 2 else down
                    box = put_in(((0, 0),) * 4, place, (number, 0))
                    due = 0 <= number < many
                    self.assertIs(is_program((across, down), (("fill", box, 1),)), due)
                    self.assertIs(is_program((across, down), (("clip", box, ()),)), due)
                for axis, many in (("x", across), ("y", down)):
                    for corners in (((number, 0), (0, 0)), ((0, 0), (number, 0))):
                        program = (("if", axis, *corners, (), ()),)
                        self.assertIs(is_program((across, down), program), 0 <= number < many)

    def test_amounts_and_moves_from_minus_nine_to_nine(self):
        for amount in range(-12, 13):
            due = -9 <= amount <= 9
            for place in range(4):
                box = put_in(BOX, place, (0, amount))
                self.assertIs(is_program((2, 1), (("fill", box, 1),)), due)
                self.assertIs(is_program((2, 1), (("clip", box, ()),)), due)
            for program in ((("move", amount, 0, ()),), (("move", 0, amount, ()),),
                            (("if", "x", (1, amount), (0, 0), (), ()),),
                            (("if", "y", (0, 0), (0, amount), (), ()),)):
                self.assertIs(is_program((2, 1), program), due)

    def test_colours_from_zero_to_nine(self):
        for colour in range(-3, 14):
            self.assertIs(is_program((2, 1), (("fill", BOX, colour),)), 0 <= colour <= 9)

    def test_limits_of_use_make_no_difference(self):
        self.assertIs(is_program((2, 1), (FILL,) * 1000), True)
        self.assertIs(is_program((2, 1), nested(20)), True)
        self.assertIs(is_program((2, 1), nested(15, MIXED)), True)
        self.assertIs(is_program((2, 1), nested(15, MIXED + (None,))), False)

    def test_moves_inside_of_moves_may_add_up_to_anything(self):
        inner = (("fill", ((0, 9), (0, 9), (0, 9), (0, 9)), 1),)
        self.assertIs(is_program((1, 1), (("move", 9, -9, (("move", 9, -9, inner),)),)), True)

    def test_other_values(self):
        for value in odd_values() + [[], [FILL], FILL, (BOX,), ((FILL,),)]:
            with self.subTest(str(value)[:60]):
                self.assertIs(call_both_ways(self, is_program, frame=(2, 1), value=value), False)

    def test_one_wrong_thing_anywhere(self):
        self.assertIs(is_program((2, 1), MIXED), True)
        for program in wrong_programs((2, 1), MIXED):
            self.assertIs(is_program((2, 1), program), False, program)

    def test_a_program_of_another_frame(self):
        across = ("fill", ((2, 0), (0, 0), (0, 0), (0, 0)), 1)
        down = ("fill", ((0, 0), (0, 0), (0, 0), (2, 0)), 1)
        for frame in FRAMES:
            self.assertIs(is_program(frame, (across,)), frame[0] == 3)
            self.assertIs(is_program(frame, (down,)), frame[1] == 3)

    def test_the_axis_of_a_test_tells_how_many_unknowns_there_are(self):
        for axis in "xy":
            for frame in ((3, 1), (1, 3), (2, 1), (1, 2)):
                program = (("if", axis, (1, 0), (0, 0), (), ()),)
                self.assertIs(is_program(frame, program), frame["xy".index(axis)] > 1)

    def test_a_wrong_frame(self):
        for frame in wrong_frames():
            for value in ((), (FILL,), None, 0, [FILL]):
                expect(self, InvalidFrame, is_program, frame, value)


class CountStatementsTest(unittest.TestCase):
    def test_grown_programs(self):
        for frame in FRAMES:
            for seed in range(30):
                grown = Grown(frame, seed)
                told = call_both_ways(self, count_statements, frame=frame, program=grown.program)
                self.assertEqual(told, (grown.statements, grown.levels))
                self.assertIs(type(told), tuple)

    def test_told_programs(self):
        self.assertEqual(count_statements((2, 1), ()), (0, 0))
        self.assertEqual(count_statements((2, 1), (FILL,)), (1, 1))
        self.assertEqual(count_statements((2, 1), (FILL, FILL, FILL)), (3, 1))
        self.assertEqual(count_statements((2, 1), (("clip", BOX, ()),)), (1, 1))
        self.assertEqual(count_statements((2, 1), (("move", 0, 0, (FILL,)), FILL)), (3, 2))
        self.assertEqual(count_statements((2, 1), MIXED), (14, 3))
        for place in (4, 5):
            test = put_in(("if", "x", (0, 0), (0, 0), (), ()), place, nested(2))
            self.assertEqual(count_statements((2, 1), (FILL, test)), (4, 3))

    def test_beyond_the_limits_of_use(self):
        self.assertEqual(count_statements((2, 1), nested(20)), (20, 20))
        self.assertEqual(count_statements((2, 1), (FILL,) * 1000), (1000, 1))


class FillsTest(unittest.TestCase):
    def test_grown_programs(self):
        for frame in FRAMES:
            for seed in range(30):
                grown = Grown(frame, seed)
                told = call_both_ways(self, fills, frame=frame, program=grown.program)
                self.assertEqual(told, grown.fills)
                self.assertIs(type(told), list)

    def test_the_ones_inside_stand_before_those_behind(self):
        marks = [("fill", BOX, colour) for colour in range(7)]
        program = (marks[0], ("move", 9, 9, (marks[1], ("clip", BOX, (marks[2],)), marks[3])),
                   ("if", "y", (0, 0), (0, 0), (marks[4],), (marks[5],)), marks[6])
        self.assertEqual(fills((2, 1), program), marks)

    def test_equal_fills_stand_as_often_as_they_do(self):
        self.assertEqual(fills((2, 1), (FILL, ("clip", BOX, (FILL, FILL)))), [FILL] * 3)

    def test_no_fills(self):
        self.assertEqual(fills((2, 1), ()), [])
        self.assertEqual(fills((2, 1), (("clip", BOX, ()), ("move", 1, 1, ()))), [])

    def test_the_list_is_new(self):
        expect_new_lists(self, fills, (2, 1), MIXED)
        expect_new_lists(self, fills, (2, 1), ())


class ReachTest(unittest.TestCase):
    def test_grown_programs(self):
        for frame in FRAMES:
            for seed in range(30):
                grown = Grown(frame, seed)
                told = call_both_ways(self, reach, frame=frame, program=grown.program)
                due = []
                for axis in "xy":
                    amounts = [amount for _, amount in grown.corners[axis]]
                    due.append(max(amounts) - min(amounts) if amounts else 0)
                self.assertEqual(told, tuple(due))

    def test_no_corners(self):
        for program in ((), (("move", 9, -9, ()),), (("move", 9, 9, (("move", 9, 9, ()),)),)):
            self.assertEqual(reach((2, 1), program), (0, 0))

    def test_corners_on_one_axis_alone(self):
        self.assertEqual(reach((2, 1), (("if", "x", (0, -9), (1, 9), (), ()),)), (18, 0))
        self.assertEqual(reach((2, 1), (("if", "y", (0, 4), (0, 7), (), ()),)), (0, 3))

    def test_a_reach_is_one_amount_less_another_not_an_amount(self):
        box = ((0, 7), (1, 7), (0, -5), (0, -3))
        self.assertEqual(reach((2, 1), (("fill", box, 1),)), (0, 2))

    def test_moves_add_up_around_clips_and_tests(self):
        low = ("fill", ((0, 0), (0, 0), (0, 0), (0, 0)), 1)
        for inner in (("fill", ((0, 1),) * 4, 1), ("clip", ((0, 1),) * 4, ())):
            program = (low, ("move", 9, -9, (("move", 9, -9, (inner,)),)))
            self.assertEqual(reach((1, 1), program), (19, 17))
        test = ("if", "x", (0, 2), (0, 1), (), ())
        self.assertEqual(reach((1, 1), (low, ("move", 5, 7, (test,)))), (7, 0))
        test = ("if", "y", (0, -2), (0, -1), (), (("fill", ((0, 3),) * 4, 0),))
        self.assertEqual(reach((1, 1), (low, ("move", -5, -7, (test,)))), (2, 9))

    def test_a_move_ends_with_its_program(self):
        flat = ("fill", ((0, 0),) * 4, 1)
        self.assertEqual(reach((1, 1), (("move", 3, 4, (flat,)), ("move", 3, 4, (flat,)))), (0, 0))
        self.assertEqual(reach((1, 1), (("move", 3, 4, (flat,)), flat)), (3, 4))


class CornersOfTest(unittest.TestCase):
    def test_grown_programs(self):
        for frame in FRAMES:
            for seed in range(30):
                grown = Grown(frame, seed)
                told = call_both_ways(self, corners_of, frame=frame, program=grown.program)
                due = tuple([sorted(set(grown.corners[axis])) for axis in "xy"])
                self.assertEqual(told, due)
                self.assertIs(type(told), tuple)

    def test_each_once_and_ascending(self):
        box = ((1, -3), (0, 2), (0, 1), (0, 1))
        program = (("fill", box, 1), ("clip", box, (("fill", box, 2),)))
        self.assertEqual(corners_of((2, 1), program), ([(0, 2), (1, -3)], [(0, 1)]))

    def test_one_corner_by_several_moves(self):
        flat = ("fill", ((0, 0),) * 4, 1)
        program = (("move", 2, -9, (("move", -2, -9, (flat,)),)), flat)
        self.assertEqual(corners_of((1, 1), program), ([(0, 0)], [(0, -18), (0, 0)]))

    def test_a_test_counts_on_its_axis(self):
        program = (("move", 1, 2, (("if", "y", (1, 0), (0, 0), (), ()),)),)
        self.assertEqual(corners_of((1, 2), program), ([], [(0, 2), (1, 2)]))

    def test_no_corners(self):
        self.assertEqual(corners_of((2, 1), ()), ([], []))

    def test_the_lists_are_new(self):
        expect_new_lists(self, corners_of, (2, 1), MIXED)
        expect_new_lists(self, corners_of, (2, 1), ())


class WrongArgumentsTest(unittest.TestCase):
    def test_wrong_frames(self):
        for function in READERS:
            for frame in wrong_frames():
                for program in ((), (FILL,), None, [FILL], (0,)):
                    expect(self, InvalidFrame, function, frame, program)

    def test_wrong_programs(self):
        wrongs = odd_values() + wrong_programs((2, 1), MIXED[2:4])
        for function in READERS:
            for program in wrongs:
                expect(self, InvalidProgram, function, (2, 1), program)

    def test_errors_by_name(self):
        for function in READERS:
            with self.assertRaises(InvalidProgram):
                function(program=[FILL], frame=(2, 1))
            with self.assertRaises(InvalidFrame):
                function(program=[FILL], frame=[2, 1])

    def test_a_program_of_a_greater_frame(self):
        box = ((2, 0), (0, 0), (0, 0), (0, 0))
        for function in READERS:
            expect(self, InvalidProgram, function, (2, 3), (("fill", box, 1),))
            function((3, 1), (("fill", box, 1),))


if __name__ == "__main__":
    unittest.main()

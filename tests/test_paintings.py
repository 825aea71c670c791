"""Promise 14: paintings as objects, by the conventions [2] and what [4], [11] and [12] say."""

import copy
import itertools
import random
import unittest

from tests.samples import (
    FRAMES, HUGE, ONE, OTHER, Grown, beyond_close, box_of, call_both_ways, colours, edge_programs,
    expect, framed_cells, lists_in, odd_values, small_programs, unlike_integers, wide_programs,
    wrong_frames, wrong_settings)
from tests.test_alike import many_pairs, parting_by_going_through, under_by_going_through
from tests.test_painting import many_paintings, some_setting, wrong_cells
from tests.test_programs import BOX, MIXED, wrong_boxes, wrong_programs, wrong_statements
from unknowncorners.alike import alike, under
from unknowncorners.errors import (
    InvalidCell, InvalidFrame, InvalidIndex, InvalidProgram, InvalidSetting, InvalidStatement,
    InvalidText, InvalidValue, OtherFrame, PaintError)
from unknowncorners.painting import colour_at, picture
from unknowncorners.paintings import Painting
from unknowncorners.programs import count_statements, is_program

FRAME = (2, 1)
SETTING = ([0, 3], [1])
DOT = ("fill", box_of(0, 1, 0, 1), 1)
BLUE = ("fill", box_of(0, 2, -1, 1, 1), 2)
# Paintings of other frames than (2, 1), with statements that are such on each frame.
UNLIKE = [Painting(frame, DOT) for frame in FRAMES if frame != FRAME]


def programs():
    """Frames and programs: edges, ones beyond the limits, and grown ones on all frames."""
    found = list(edge_programs().values()) + list(wide_programs().values()) + [(FRAME, MIXED)]
    for frame in FRAMES:
        found += [(frame, Grown(frame, seed, 1 + seed // 3, 3, seed > 3).program) for seed in range(8)]
    return found


def wrong_indexes(many):
    found = [value for value in odd_values() if type(value) is not int]
    found += [-1, -2, many, many + 1, HUGE, -HUGE, [0], (0,), (0, 0), "0", True, False, None]
    return found + unlike_integers(0) + unlike_integers(1)


def some_wrong_statements():
    """Values that are no statement of the frame (2, 1)."""
    found = odd_values() + [(), MIXED, list(DOT), [DOT], (DOT,), ("fill",)]
    for statement in MIXED:
        found += wrong_statements(FRAME, statement)
    return found


def some_wrong_programs():
    """Tuples that are no program of the frame (2, 1)."""
    return [value for value in wrong_programs(FRAME, MIXED) + odd_values() if type(value) is tuple]


class PaintingTestCase(unittest.TestCase):
    def expect_kept(self, painting, frame, program):
        """The painting has exactly this frame and this program."""
        self.assertIs(type(painting), Painting)
        for told, due in ((painting.frame, frame), (painting.program, program)):
            self.assertIs(type(told), tuple)
            self.assertEqual(repr(told), repr(due))

    def expect_unchanged(self, error, painting, function, *args):
        """The call raises exactly this error, and the painting stays."""
        frame, program = painting.frame, painting.program
        expect(self, error, function, *args)
        self.expect_kept(painting, frame, program)


class MakingTest(PaintingTestCase):
    def test_frame_and_program(self):
        for frame, program in programs():
            self.expect_kept(Painting(frame, *program), frame, program)

    def test_the_frame_by_name(self):
        self.expect_kept(Painting(frame=FRAME), FRAME, ())

    def test_without_statements(self):
        for frame in FRAMES:
            self.expect_kept(Painting(frame), frame, ())

    def test_wrong_frames(self):
        for wrong in wrong_frames():
            expect(self, InvalidFrame, Painting, wrong)
            expect(self, InvalidFrame, Painting, wrong, DOT)
            expect(self, InvalidFrame, Painting, wrong, None)

    def test_wrong_statements(self):
        for wrong in some_wrong_programs():
            expect(self, InvalidProgram, Painting, FRAME, *wrong)
        for wrong in some_wrong_statements():
            expect(self, InvalidProgram, Painting, FRAME, wrong)
            expect(self, InvalidProgram, Painting, FRAME, DOT, wrong, DOT)

    def test_a_statement_of_a_greater_frame(self):
        expect(self, InvalidProgram, Painting, (1, 1), BLUE)
        self.expect_kept(Painting((2, 1), BLUE), (2, 1), (BLUE,))

    def test_many_statements_and_levels(self):
        program = (DOT,) * 60
        for _ in range(11):
            program = (("clip", BOX, program),)
        self.expect_kept(Painting(FRAME, *program), FRAME, program)


class ItemsTest(PaintingTestCase):
    def test_len(self):
        for frame, program in programs():
            self.assertEqual(len(Painting(frame, *program)), len(program))
            self.assertIs(type(len(Painting(frame, *program))), int)

    def test_items(self):
        for frame, program in programs():
            painting = Painting(frame, *program)
            self.assertEqual([painting[k] for k in range(len(program))], list(program))
            expect(self, InvalidIndex, lambda: painting[len(program)])
            expect(self, InvalidIndex, lambda: painting[-1])

    def test_items_are_replaced(self):
        for k, statement in itertools.product(range(len(MIXED)), MIXED + (DOT, BLUE)):
            painting = Painting(FRAME, *MIXED)
            painting[k] = statement
            due = list(MIXED)
            due[k] = statement
            self.expect_kept(painting, FRAME, tuple(due))

    def test_a_replaced_item_paints(self):
        painting = Painting(FRAME, DOT, BLUE)
        painting[1] = DOT
        self.assertEqual(painting(([0, 0], [0]), (1, 0)), 0)
        painting[0] = BLUE
        self.assertEqual(painting(([0, 0], [0]), (1, 0)), 2)
        self.expect_kept(painting, FRAME, (BLUE, DOT))

    def test_wrong_indexes(self):
        for painting in (Painting(FRAME, *MIXED), Painting(FRAME)):
            for wrong in wrong_indexes(len(painting)) + [slice(0, 1), slice(None)]:
                self.expect_unchanged(InvalidIndex, painting, lambda at: painting[at], wrong)
                for statement in (DOT, None, (), MIXED):
                    self.expect_unchanged(
                        InvalidIndex, painting, lambda at, worth: painting.__setitem__(at, worth),
                        wrong, statement)

    def test_wrong_statements(self):
        painting = Painting(FRAME, *MIXED)
        for wrong in some_wrong_statements():
            for k in range(len(MIXED)):
                self.expect_unchanged(
                    InvalidStatement, painting, lambda at, worth: painting.__setitem__(at, worth), k, wrong)

    def test_a_statement_of_a_greater_frame(self):
        painting = Painting((1, 1), DOT)
        self.expect_unchanged(InvalidStatement, painting,
                              lambda worth: painting.__setitem__(0, worth), BLUE)

    def test_statements_that_are_in_it(self):
        for frame, program in programs():
            painting = Painting(frame, *program)
            for statement in program:
                self.assertIs(copy.deepcopy(statement) in painting, True)
                for inside in statement:
                    if type(inside) is tuple and is_program(frame, inside):
                        for deeper in inside:
                            self.assertIs(deeper in painting, deeper in program)
            for statement in MIXED + (DOT, BLUE):
                if is_program(frame, (statement,)):
                    self.assertIs(statement in painting, statement in program)

    def test_other_values_are_not_in_it(self):
        painting = Painting(FRAME, *MIXED)
        for value in some_wrong_statements():
            self.assertIs(value in painting, False, repr(value)[:200])
        for value in odd_values():
            self.assertIs(value in Painting(FRAME), False)

    def test_what_is_equal_but_no_statement_is_not_in_it(self):
        painting = Painting(FRAME, DOT, ("move", 0, 1, ()))
        for value in (("fill", DOT[1], True), ("move", False, 1, ()), ("move", 0, True, ()),
                      ("fill", ((False, 0), *DOT[1][1:]), 1), ("fill", ((0, False), *DOT[1][1:]), 1)):
            self.assertIn(value, painting.program)
            self.assertIs(value in painting, False)

    def test_it_is_not_iterated_over(self):
        for painting in (Painting(FRAME), Painting(FRAME, *MIXED)):
            for go in (iter, list, tuple, sorted, set, enumerate, lambda xs: [x for x in xs],
                       lambda xs: [*xs], lambda xs: max(xs, default=0)):
                with self.assertRaises(TypeError):
                    go(painting)


class ColourTest(PaintingTestCase):
    def test_against_colour_at(self):
        for frame, program, setting in many_paintings():
            painting = Painting(frame, *program)
            cells = colours(program, setting)
            for cell in list(cells)[:20] + [(0, 0), (3, -2), (HUGE, -HUGE)]:
                due = colour_at(frame, program, setting, cell)
                self.assertEqual(painting(setting, cell), due)
                self.assertEqual(due, cells.get(cell, 0))
            self.expect_kept(painting, frame, program)

    def test_by_position_and_by_name(self):
        painting = Painting(FRAME, DOT, BLUE)
        self.assertEqual(call_both_ways(self, painting, setting=SETTING, cell=(4, 1)), 2)

    def test_values_of_many_digits(self):
        painting = Painting(FRAME, BLUE)
        self.assertEqual(painting(([HUGE - 5, HUGE], [-HUGE]), (HUGE - 1, -HUGE)), 2)
        self.assertEqual(painting(([HUGE - 5, HUGE], [-HUGE]), (HUGE - 6, -HUGE)), 0)

    def test_wrong_settings_and_cells(self):
        painting = Painting(FRAME, *MIXED)
        for wrong in wrong_settings():
            self.expect_unchanged(InvalidSetting, painting, painting, wrong, (0, 0))
            self.expect_unchanged(InvalidSetting, painting, painting, wrong, None)
        for wrong in wrong_cells():
            self.expect_unchanged(InvalidCell, painting, painting, SETTING, wrong)


class AddingTest(PaintingTestCase):
    def pairs(self):
        found = [(FRAME, (), ()), (FRAME, (DOT,), ()), (FRAME, (), (DOT,)), (FRAME, MIXED, MIXED)]
        for frame in FRAMES:
            found += [(frame, Grown(frame, seed, 2).program, Grown(frame, seed + 50, 3).program)
                      for seed in range(4)]
        return found

    def test_paintings(self):
        for frame, one, other in self.pairs():
            first, second = Painting(frame, *one), Painting(frame, *other)
            total = first + second
            self.expect_kept(total, frame, one + other)
            self.expect_kept(first, frame, one)
            self.expect_kept(second, frame, other)
            self.assertFalse(total is first or total is second)

    def test_a_tuple_on_either_side(self):
        for frame, one, other in self.pairs():
            painting = Painting(frame, *one)
            for total, due in ((painting + other, one + other), (other + painting, other + one)):
                self.expect_kept(total, frame, due)
                self.assertFalse(total is painting)
            self.expect_kept(painting, frame, one)

    def test_in_place(self):
        for frame, one, other in self.pairs():
            for more in (other, Painting(frame, *other)):
                painting = first = Painting(frame, *one)
                painting += more
                self.assertIs(painting, first)
                self.expect_kept(first, frame, one + other)
            self.expect_kept(more, frame, other)

    def test_a_tuple_in_place(self):
        total = (BLUE,)
        painting = Painting(FRAME, DOT)
        total += painting
        self.expect_kept(total, FRAME, (BLUE, DOT))
        self.expect_kept(painting, FRAME, (DOT,))

    def test_a_painting_with_itself(self):
        painting = Painting(FRAME, DOT, BLUE)
        self.expect_kept(painting + painting, FRAME, (DOT, BLUE) * 2)
        painting += painting
        self.expect_kept(painting, FRAME, (DOT, BLUE) * 2)

    def test_the_sum_stays_when_a_part_is_changed(self):
        first, second = Painting(FRAME, DOT), Painting(FRAME, BLUE)
        total = first + second
        first += second
        second[0] = DOT
        self.expect_kept(total, FRAME, (DOT, BLUE))
        total += total
        self.expect_kept(first, FRAME, (DOT, BLUE))
        self.expect_kept(second, FRAME, (DOT,))

    def test_many_statements(self):
        total = sum([Painting(FRAME, *MIXED)] * 8, ())
        self.expect_kept(total, FRAME, MIXED * 8)
        cells = colours(MIXED * 8, SETTING)
        for cell in itertools.product(range(-3, 8), repeat=2):
            self.assertEqual(total(SETTING, cell), cells.get(cell, 0))

    def test_wrong_tuples(self):
        painting = Painting(FRAME, *MIXED)

        def in_place(wrong):
            changed = painting
            changed += wrong

        for wrong in some_wrong_programs():
            for act in (lambda w: painting + w, lambda w: w + painting, in_place):
                self.expect_unchanged(InvalidProgram, painting, act, wrong)
        expect(self, InvalidProgram, lambda: Painting((1, 1)) + (BLUE,))

    def test_unlike_frames(self):
        painting = Painting(FRAME, DOT)

        def in_place(one, other):
            one += other

        for other in UNLIKE:
            for act in (lambda one, two: one + two, in_place):
                self.expect_unchanged(OtherFrame, painting, act, painting, other)
                self.expect_unchanged(OtherFrame, painting, act, other, painting)
                self.expect_kept(other, other.frame, (DOT,))


class ComparingTest(PaintingTestCase):
    def test_against_going_through_all_settings(self):
        told = {}
        for frame, one, other in many_pairs(110):
            first, second = Painting(frame, *one), Painting(frame, *other)
            same = parting_by_going_through(frame, one, other) is None
            below = under_by_going_through(frame, one, other)
            above = under_by_going_through(frame, other, one)
            due = [same, not same, below, below and not same, above, above and not same]
            self.assertEqual([first == second, first != second, first <= second, first < second,
                              second <= first, second < first], due, (frame, one, other))
            self.assertEqual(due[::2], [alike(frame, one, other), under(frame, one, other),
                                        under(frame, other, one)])
            told[tuple(due)] = told.get(tuple(due), 0) + 1
        self.assertGreaterEqual(len(told), 4)
        self.assertGreater(min(told.values()), 2)

    def test_kinds(self):
        one, other = Painting(FRAME, *ONE), Painting(FRAME, *OTHER)
        for told in (one == other, one != other, one <= other, one < other, bool(one)):
            self.assertIs(type(told), bool)

    def test_the_example(self):
        one, other = Painting(FRAME, *ONE), Painting(FRAME, *OTHER)
        self.assertFalse(one == other)
        self.assertTrue(one != other)
        self.assertTrue(one == one + ONE)
        self.assertFalse(one != Painting(FRAME, *ONE))

    def test_less_is_not_alike(self):
        red, both = Painting(FRAME, DOT), Painting(FRAME, DOT, BLUE)
        again = red + (("fill", box_of(0, 0, 0, 1), 5),)
        self.assertEqual([red <= again, again <= red, red < again, again < red, red == again],
                         [True, True, False, False, True])
        self.assertEqual([red <= both, red < both], [False, False])
        both = Painting(FRAME, BLUE, DOT)
        self.assertEqual([red <= both, red < both, both <= red, both < red], [True, True, False, False])

    def test_paintings_of_nothing(self):
        nothing = Painting(FRAME)
        for name in ("empty", "without cells", "bare alone", "bare over all", "empty clips"):
            other = Painting(*edge_programs()[name][:1], *edge_programs()[name][1])
            self.assertTrue(nothing == other and other == nothing and other <= nothing)
            self.assertFalse(nothing != other or nothing < other or other < nothing)
        self.assertTrue(nothing < Painting(FRAME, DOT))
        self.assertFalse(nothing == Painting(FRAME, DOT) or Painting(FRAME, DOT) <= nothing)

    def test_unequal_to_one_on_another_frame(self):
        for program in ((), (DOT,)):
            for frame, other in itertools.permutations(FRAMES, 2):
                self.assertIs(Painting(frame, *program) == Painting(other, *program), False)
                self.assertIs(Painting(frame, *program) != Painting(other, *program), True)

    def test_unequal_to_any_other_value(self):
        painting = Painting(FRAME, DOT)
        values = odd_values() + [(DOT,), DOT, (FRAME, DOT), FRAME, [DOT], Painting, SETTING]
        for value in values:
            for told in (painting == value, value == painting):
                self.assertIs(told, False, repr(value)[:200])
            for told in (painting != value, value != painting):
                self.assertIs(told, True, repr(value)[:200])
        self.assertFalse(Painting((1, 1)) == ())
        self.assertTrue(painting in [painting] and Painting(FRAME, DOT, DOT) in [None, painting])
        self.assertEqual(painting.program, (DOT,))

    def test_order_on_unlike_frames(self):
        painting = Painting(FRAME, DOT)
        for other in UNLIKE + [Painting((1, 1)), Painting((3, 3))]:
            for one, two in ((painting, other), (other, painting)):
                for act in (lambda a, b: a <= b, lambda a, b: a < b, lambda a, b: a >= b,
                            lambda a, b: a > b):
                    self.expect_unchanged(OtherFrame, painting, act, one, two)

    def test_order_the_other_way_round(self):
        small, great = Painting(FRAME, DOT), Painting(FRAME, BLUE, DOT)
        self.assertTrue(great >= small and great > small)
        self.assertFalse(small >= great or small > great or small > small)

    def test_what_is_no_operand(self):
        painting = Painting(FRAME, DOT)

        def in_place(value):
            changed = painting
            changed += value

        for value in (None, 1, "x", [DOT], [], InvalidText(1)):
            for act in (lambda one: painting + one, lambda one: one + painting, in_place,
                        lambda one: painting <= one, lambda one: painting < one, lambda one: painting >= one):
                with self.assertRaises(TypeError):
                    act(value)
        self.expect_kept(painting, FRAME, (DOT,))

    def test_changes_count_at_once(self):
        one, other = Painting(FRAME, DOT), Painting(FRAME, BLUE)
        self.assertFalse(one == other)
        one[0] = BLUE
        self.assertTrue(one == other)
        one += (DOT,)
        self.assertFalse(one == other)

    def test_bool_by_going_through_all_settings(self):
        told = [0, 0]
        for frame, program in list(edge_programs().values()) + list(small_programs(150)):
            due = any(colours(program, setting) for setting in beyond_close(frame, [program]))
            self.assertIs(bool(Painting(frame, *program)), due, program)
            told[due] += 1
        self.assertGreater(min(told), 5)

    def test_bool(self):
        wide = ("fill", box_of(-9, 9, -9, 9), 0)
        for program, due in (
                ((), False), ((DOT,), True), ((wide,), False), ((DOT, wide), False),
                ((BLUE, ("fill", BLUE[1], 0)), False), ((BLUE, wide), True), ((wide, DOT), True),
                ((("clip", box_of(0, 1, 0, 1), ()),), False), ((("fill", box_of(1, 1, 0, 9), 3),), False),
                ((("if", "x", (0, 0), (0, 0), (DOT,), ()),), False),
                ((("if", "x", (1, 9), (0, -9), (DOT,), ()),), True),
                ((("if", "x", (1, 9), (0, -9), (), (DOT, wide)),), False)):
            painting = Painting(FRAME, *program)
            self.assertIs(bool(painting), due, program)
            self.assertIs(not painting, not due)
            self.expect_kept(painting, FRAME, program)

    def test_bool_beyond_the_limits(self):
        for frame in ((3, 3), (2, 2), (1, 3)):
            total = Painting(frame)
            for k in range(10):
                total = (total + (DOT,)).moved((-1) ** k * 9, k)
            self.assertEqual(count_statements(frame, total.program), (20, 11))
            self.assertIs(bool(total), True)
            self.assertIs(bool(total.clipped(box_of(0, 0, 0, 9))), False)


class MethodsTest(PaintingTestCase):
    def test_moved(self):
        painting = Painting(FRAME, *MIXED)
        for across, down in itertools.product(range(-9, 10), repeat=2):
            self.expect_kept(painting.moved(across, down), FRAME, (("move", across, down, MIXED),))
        self.expect_kept(painting, FRAME, MIXED)

    def test_moved_by_position_and_by_name(self):
        painting = Painting(FRAME, DOT)
        for told, due in ((painting.moved(), (0, 0)), (painting.moved(3), (3, 0)),
                          (painting.moved(across=-9), (-9, 0)), (painting.moved(down=9), (0, 9)),
                          (painting.moved(down=2, across=1), (1, 2)), (painting.moved(4, down=5), (4, 5))):
            self.expect_kept(told, FRAME, (("move", *due, (DOT,)),))

    def test_moved_pictures(self):
        chance = random.Random(41)
        for frame, program, setting in many_paintings():
            across, down = chance.randint(-9, 9), chance.randint(-9, 9)
            told = picture(frame, Painting(frame, *program).moved(across, down).program, setting)
            cells = {(x + across, y + down): colour for (x, y), colour in colours(program, setting).items()}
            self.assertEqual(told, framed_cells(cells))

    def test_moved_by_wrong_values(self):
        painting = Painting(FRAME, DOT)
        wrongs = [value for value in odd_values() if value not in (0, 1, -1) or type(value) is not int]
        for wrong in wrongs + unlike_integers(0) + unlike_integers(5) + [10, -10, 11, -11, HUGE, "1", (1, 1)]:
            self.expect_unchanged(InvalidValue, painting, painting.moved, wrong)
            self.expect_unchanged(InvalidValue, painting, painting.moved, wrong, 0)
            self.expect_unchanged(InvalidValue, painting, painting.moved, 0, wrong)
            self.expect_unchanged(InvalidValue, painting, painting.moved, wrong, wrong)

    def test_moves_of_moves(self):
        painting = Painting(FRAME, DOT)
        for _ in range(11):
            painting = painting.moved(9, -9)
        self.assertEqual(count_statements(FRAME, painting.program), (12, 12))
        self.assertEqual(picture(FRAME, painting.program, ([0, 0], [0])), ([99, 100], [-99, -98], [[1]]))
        self.assertEqual(painting(([0, 0], [0]), (99, -99)), 1)

    def test_clipped(self):
        for frame, program in programs():
            painting = Painting(frame, *program)
            boxes = [box_of(0, 2, -1, 1), box_of(1, 0, 0, 1), box_of(-9, 9, -9, 9),
                     tuple([(many - 1, k - 1) for k, many in enumerate((frame[0],) * 2 + (frame[1],) * 2)])]
            for box in boxes:
                told = call_both_ways(self, lambda box: painting.clipped(box).program, box=box)
                self.assertEqual(told, (("clip", box, program),))
                self.expect_kept(painting.clipped(box), frame, told)
            self.expect_kept(painting, frame, program)

    def test_clipped_pictures(self):
        for frame, program, setting in many_paintings():
            told = picture(frame, Painting(frame, *program).clipped(box_of(-1, 2, 0, 3)).program, setting)
            left, top = setting[0][0], setting[1][0]
            self.assertEqual(told, framed_cells({
                (x, y): colour for (x, y), colour in colours(program, setting).items()
                if left - 1 <= x < left + 2 and top <= y < top + 3}))

    def test_clipped_by_wrong_boxes(self):
        painting = Painting(FRAME, DOT)
        for wrong in odd_values() + wrong_boxes(FRAME, BOX) + [DOT, ("clip", BOX, ())]:
            self.expect_unchanged(InvalidValue, painting, painting.clipped, wrong)
        expect(self, InvalidValue, Painting((1, 1)).clipped, BOX)


class StepsTest(PaintingTestCase):
    def test_against_the_pictures_of_the_beginnings(self):
        for frame, program, setting in many_paintings():
            painting = Painting(frame, *program)
            before = copy.deepcopy(setting)
            told = list(painting.steps(setting))
            self.assertEqual(told, [picture(frame, program[:k], setting) for k in range(len(program) + 1)])
            self.assertEqual(told[-1], framed_cells(colours(program, setting)))
            self.assertEqual(told, list(painting.steps(setting=setting)))
            self.assertEqual(setting, before)
            self.expect_kept(painting, frame, program)

    def test_without_statements(self):
        self.assertEqual(list(Painting(FRAME).steps(SETTING)), [([], [], [])])

    def test_one_after_another(self):
        steps = iter(Painting(FRAME, DOT, BLUE).steps(([0, 0], [0])))
        self.assertEqual(next(steps), ([], [], []))
        self.assertEqual(next(steps), ([0, 1], [0, 1], [[1]]))
        self.assertEqual(next(steps), ([0, 2], [-1, 1], [[2]]))
        self.assertIsNone(next(steps, None))

    def test_two_at_once(self):
        painting = Painting(FRAME, *MIXED)
        due = list(painting.steps(SETTING))
        pairs = list(zip(painting.steps(SETTING), painting.steps(SETTING)))
        self.assertEqual(pairs, [(one, one) for one in due])

    def test_wrong_settings(self):
        painting = Painting(FRAME, *MIXED)
        for wrong in wrong_settings():
            self.expect_unchanged(
                InvalidSetting, painting, lambda setting: next(iter(painting.steps(setting))), wrong)
            self.expect_unchanged(
                InvalidSetting, painting, lambda setting: list(Painting(FRAME).steps(setting)), wrong)

    def test_the_painting_is_changed_while_they_are_gone_through(self):
        for many in range(1, len(MIXED) + 1):
            painting = Painting(FRAME, *MIXED)
            due = list(painting.steps(SETTING))
            steps = iter(painting.steps(SETTING))
            told = [next(steps) for _ in range(many)]
            painting[0] = BLUE
            painting[len(MIXED) - 1] = BLUE
            painting += (BLUE, DOT)
            self.assertEqual(told + list(steps), due)
            self.assertEqual(len(list(painting.steps(SETTING))), len(MIXED) + 3)

    def test_the_setting_is_changed_while_they_are_gone_through(self):
        for many in range(1, len(MIXED) + 1):
            painting, setting = Painting(FRAME, *MIXED), ([0, 3], [1])
            due = list(painting.steps(SETTING))
            steps = iter(painting.steps(setting))
            told = [next(steps) for _ in range(many)]
            setting[0][1] = 7
            setting[1].clear()
            self.assertEqual(told + list(steps), due)

    def test_the_pictures_are_new(self):
        painting = Painting(FRAME, *MIXED, *MIXED)
        due = list(painting.steps(SETTING))
        told = []
        for step in painting.steps(SETTING):
            told.append(copy.deepcopy(step))
            for row in lists_in(step):
                row.append("changed")
        self.assertEqual(told, due)
        lists = [row for step in due for row in lists_in(step)]
        self.assertEqual(len({id(row) for row in lists}), len(lists))


class OfBoxesTest(PaintingTestCase):
    def test_boxes(self):
        boxes = [box_of(0, 1, 0, 1), box_of(1, 0, 0, 1), BOX, BOX]
        for many in range(5):
            self.expect_kept(Painting.of_boxes(FRAME, *boxes[:many]), FRAME,
                             tuple([("fill", box, 1) for box in boxes[:many]]))
            for colour in range(10):
                self.expect_kept(Painting.of_boxes(FRAME, *boxes[:many], colour=colour), FRAME,
                                 tuple([("fill", box, colour) for box in boxes[:many]]))

    def test_without_boxes(self):
        for frame in FRAMES:
            self.expect_kept(Painting.of_boxes(frame), frame, ())
            self.expect_kept(Painting.of_boxes(frame=frame, colour=9), frame, ())

    def test_off_an_object(self):
        painting = Painting((1, 1), DOT)
        self.expect_kept(painting.of_boxes(FRAME, BOX, colour=3), FRAME, (("fill", BOX, 3),))
        self.expect_kept(painting, (1, 1), (DOT,))

    def test_pictures(self):
        chance = random.Random(42)
        for frame in FRAMES:
            fills = [fill for seed in range(6) for fill in Grown(frame, seed, 1).fills]
            boxes = [fill[1] for fill in chance.sample(fills, 4)]
            setting, colour = some_setting(chance, frame), chance.randint(1, 9)
            cells = colours(tuple([("fill", box, colour) for box in boxes]), setting)
            painting = Painting.of_boxes(frame, *boxes, colour=colour)
            self.assertEqual(list(painting.steps(setting))[-1], framed_cells(cells))
            for cell in cells:
                self.assertEqual(painting(setting, cell), colour)

    def test_wrong_frames(self):
        for wrong in wrong_frames():
            expect(self, InvalidFrame, Painting.of_boxes, wrong)
            expect(self, InvalidFrame, Painting.of_boxes, wrong, BOX)
            expect(self, InvalidFrame, Painting.of_boxes, wrong, None)
            expect(self, InvalidFrame, lambda frame: Painting.of_boxes(frame, colour=10), wrong)

    def test_wrong_boxes(self):
        for wrong in odd_values() + wrong_boxes(FRAME, BOX):
            expect(self, InvalidProgram, Painting.of_boxes, FRAME, wrong)
            expect(self, InvalidProgram, Painting.of_boxes, FRAME, BOX, wrong, BOX)
        expect(self, InvalidProgram, Painting.of_boxes, (1, 1), BOX)

    def test_wrong_colours(self):
        wrongs = [value for value in odd_values() if type(value) is not int]
        for wrong in wrongs + unlike_integers(0) + unlike_integers(5) + [-1, 10, HUGE, -HUGE, "1", [1], (1,)]:
            for boxes in ((), (BOX,), (BOX, BOX)):
                expect(self, InvalidProgram,
                       lambda colour: Painting.of_boxes(FRAME, *boxes, colour=colour), wrong)

    def test_the_colour_is_told_by_name_only(self):
        expect(self, InvalidProgram, Painting.of_boxes, FRAME, BOX, 1)


class ErrorsTest(PaintingTestCase):
    def test_all_stand_under_one(self):
        for act in (lambda: Painting(None), lambda: Painting(FRAME, None), lambda: Painting(FRAME)[0],
                    lambda: Painting(FRAME).moved(10), lambda: Painting(FRAME) + UNLIKE[0],
                    lambda: Painting(FRAME) < UNLIKE[0], lambda: Painting(FRAME) + (None,)):
            with self.assertRaises(PaintError):
                act()

    def test_objects_of_the_package_are_no_statements(self):
        for value in (Painting(FRAME), InvalidText(1), Painting(FRAME, DOT)):
            expect(self, InvalidProgram, Painting, FRAME, value)
            expect(self, InvalidProgram, lambda one: Painting(FRAME) + (one,), value)


if __name__ == "__main__":
    unittest.main()

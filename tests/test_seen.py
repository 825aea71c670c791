"""Promise 13: what is seen, by the conventions [2] and the facts of [7]."""

import functools
import itertools
import unittest

from tests.samples import (
    HUGE, ONE, OTHER, beyond_close, box_of, call_both_ways, colours, count_fills, edge_programs,
    expect, expect_new_lists, framed_cells, odd_values, small_programs, tops, unlike_integers,
    wide_programs, wrong_frames)
from tests.test_programs import MIXED, wrong_programs
from unknowncorners.errors import InvalidFrame, InvalidIndex, InvalidProgram
from unknowncorners.seen import (
    exchangeable, idle, least_parts, looks, needless, neighbours, seen, seen_at)

FRAME = (2, 1)
# The functions of a frame and a program alone.
READERS = (seen, neighbours, looks, idle, exchangeable, needless, least_parts)
DOT = box_of(0, 1, 0, 1)
AT = ((1, 0), (1, 1), (0, 0), (0, 1))
WIDE = box_of(-9, 9, -9, 9)


def many_programs(count):
    return (list(edge_programs().values()) + list(wide_programs().values())
            + list(small_programs(count)))


@functools.lru_cache(maxsize=None)
def painted_everywhere(frame, program, whole):
    """The colours for each plain setting, also beyond those that are close for the whole program."""
    return [colours(program, setting) for setting in beyond_close(frame, [whole])]


def paint_alike(frame, part, whole):
    return painted_everywhere(frame, part, whole) == painted_everywhere(frame, whole, whole)


def first_places(frame, program):
    """For each fill that is seen the least setting, and the least cell there, by going through all."""
    found = {}
    for setting in beyond_close(frame, [program]):
        for cell, fill in sorted(tops(program, setting).items()):
            found.setdefault(fill, (setting, cell))
    return found


def pairs_by_going_through(frame, program):
    found = set()
    for cells in painted_everywhere(frame, program, program):
        for x, y in cells:
            for other in ((x - 1, y), (x + 1, y), (x, y - 1), (x, y + 1)):
                found.add(tuple(sorted((cells[x, y], cells.get(other, 0)))))
    return sorted(pair for pair in found if pair[0] != pair[1])


def looks_by_going_through(frame, program):
    found = []
    for cells in painted_everywhere(frame, program, program):
        told = framed_cells(cells)[2]
        if told not in found:
            found.append(told)
    return sorted(found)


def matters(frame, program, place, number):
    """Whether some other value of the unknown alone changes the picture of some setting."""
    settings = beyond_close(frame, [program], 1)
    pictures = {str(setting): colours(program, setting) for setting in settings}
    for setting in settings:
        for value in range(max(setting[place]) + 2):
            later = (list(setting[0]), list(setting[1]))
            later[place][number] = value
            other = pictures.get(str(later)) or colours(program, later)
            if other != pictures[str(setting)]:
                return True
    return False


def least_by_going_through(frame, program):
    """The least lists of statements, by going through all lists of indexes."""
    same = [list(row) for many in range(len(program) + 1)
            for row in itertools.combinations(range(len(program)), many)
            if paint_alike(frame, tuple([program[k] for k in row]), program)]
    return [row for row in same if not any(set(part) < set(row) for part in same)]


class SeenTest(unittest.TestCase):
    def test_against_going_through_all_settings(self):
        hidden = 0
        for frame, program in many_programs(90):
            due = first_places(frame, program)
            told = call_both_ways(self, seen, frame=frame, program=program)
            self.assertEqual(told, sorted(due), (frame, program))
            for index in range(count_fills(program)):
                told = call_both_ways(self, seen_at, frame=frame, program=program, index=index)
                self.assertEqual(told, due.get(index), (frame, program, index))
                hidden += told is None
        self.assertGreater(hidden, 50)

    def test_the_example(self):
        self.assertEqual(seen(FRAME, ONE), [0])
        self.assertEqual(seen_at(FRAME, ONE, 0), (([0, 1], [0]), (0, 0)))
        self.assertEqual(seen(FRAME, ONE + OTHER), [0, 1])
        self.assertEqual(seen_at(FRAME, ONE + OTHER, 0), (([0, 3], [0]), (2, 0)))
        self.assertEqual(seen_at(FRAME, ONE + OTHER, 1), (([0, 0], [0]), (0, 0)))

    def test_no_fills(self):
        for program in ((), (("clip", WIDE, ()),), (("if", "x", (0, 0), (1, 0), (), ()),)):
            self.assertEqual(seen(FRAME, program), [])

    def test_the_colour_that_was_there_and_bare_on_bare(self):
        self.assertEqual(seen(FRAME, (("fill", DOT, 3), ("fill", DOT, 3))), [1])
        self.assertEqual(seen(FRAME, (("fill", DOT, 0),)), [0])
        self.assertEqual(seen_at(FRAME, (("fill", DOT, 0),), 0), (([0, 0], [0]), (0, 0)))
        self.assertEqual(seen(FRAME, (("fill", DOT, 3), ("fill", WIDE, 0))), [1])

    def test_fills_in_parts_that_are_never_done_count(self):
        program = (("if", "x", (0, 0), (0, 0), (("fill", DOT, 1),), (("fill", DOT, 2),)),
                   ("clip", box_of(0, 0, 0, 9), (("fill", DOT, 3),)),
                   ("if", "x", (0, 0), (0, 1), (("fill", AT, 4),), (("fill", DOT, 5),)),
                   ("fill", box_of(4, 5, 0, 1), 6))
        self.assertEqual(seen(FRAME, program), [1, 3, 5])
        self.assertIsNone(seen_at(FRAME, program, 0))
        self.assertEqual(seen_at(FRAME, program, 1), (([0, 1], [0]), (0, 0)))
        self.assertIsNone(seen_at(FRAME, program, 2))
        self.assertIsNone(seen_at(FRAME, program, 4))
        self.assertEqual(seen_at(FRAME, program, 5), (([0, 0], [0]), (4, 0)))

    def test_the_least_setting_and_cell(self):
        program = (("fill", box_of(-2, 2, -1, 1), 1), ("fill", box_of(-2, 0, -1, 0), 2))
        self.assertEqual(seen_at(FRAME, program, 0), (([0, 0], [0]), (-2, 0)))
        late = (("fill", ((1, 2), (0, 0), (0, 0), (0, 1)), 1),)
        self.assertEqual(seen_at(FRAME, late, 0), (([3, 0], [0]), (2, 0)))
        down = (("fill", ((0, 0), (0, 1), (1, 0), (0, 0)), 1),)
        self.assertEqual(seen_at((1, 3), down, 0), (([0], [1, 0, 0]), (0, 0)))
        both = (("fill", ((1, 0), (0, 0), (1, 0), (0, 0)), 1),)
        self.assertEqual(seen_at((2, 2), both, 0), (([1, 0], [1, 0]), (0, 0)))

    def test_three_by_three(self):
        program = (("fill", ((0, 0), (2, 0), (1, 0), (2, 0)), 1),
                   ("fill", ((1, 0), (2, 0), (0, 0), (2, 0)), 2))
        self.assertEqual(seen((3, 3), program), [0, 1])
        self.assertEqual(seen_at((3, 3), program, 0), (([0, 0, 1], [1, 0, 1]), (0, 0)))
        self.assertEqual(seen_at((3, 3), program, 1), (([0, 0, 1], [0, 0, 1]), (0, 0)))

    def test_wrong_indexes(self):
        self.assertEqual(count_fills(MIXED), 7)
        integers = [-1, -7, 7, 8, HUGE, -HUGE]
        others = [value for value in odd_values() if type(value) is not int] + unlike_integers(1)
        for index in integers + others + unlike_integers(0):
            expect(self, InvalidIndex, seen_at, FRAME, MIXED, index)
        for index in (0, 1, -1, None):
            expect(self, InvalidIndex, seen_at, FRAME, (), index)
            expect(self, InvalidIndex, seen_at, FRAME, (("clip", WIDE, ()),), index)

    def test_the_lists_are_new(self):
        expect_new_lists(self, seen, FRAME, ONE)
        expect_new_lists(self, seen, FRAME, ())
        expect_new_lists(self, seen_at, FRAME, ONE, 0)
        expect_new_lists(self, seen_at, (1, 1), (("fill", DOT, 0),), 0)


class NeighboursTest(unittest.TestCase):
    def test_against_going_through_all_cells(self):
        for frame, program in many_programs(90):
            told = call_both_ways(self, neighbours, frame=frame, program=program)
            self.assertEqual(told, pairs_by_going_through(frame, program), (frame, program))
            self.assertEqual({type(pair) for pair in told} - {tuple}, set())

    def test_told_programs(self):
        dots = (("fill", DOT, 7), ("fill", AT, 3))
        self.assertEqual(neighbours(FRAME, dots), [(0, 3), (0, 7), (3, 7)])
        apart = (("fill", DOT, 7), ("fill", box_of(1, 2, 1, 2), 3))
        self.assertEqual(neighbours(FRAME, apart), [(0, 3), (0, 7)])
        self.assertEqual(neighbours(FRAME, (("fill", DOT, 7), ("fill", box_of(0, 1, 1, 2), 3))),
                         [(0, 3), (0, 7), (3, 7)])
        inside = (("fill", box_of(0, 3, 0, 3), 9), ("fill", box_of(1, 2, 1, 2), 1))
        self.assertEqual(neighbours((1, 1), inside), [(0, 9), (1, 9)])
        self.assertEqual(neighbours((1, 1), (("fill", DOT, 5), ("fill", box_of(1, 2, 0, 1), 5))),
                         [(0, 5)])

    def test_nothing_to_see(self):
        for name in ("empty", "without cells", "bare alone", "bare over all", "empty clips"):
            self.assertEqual(neighbours(*edge_programs()[name]), [], name)

    def test_many_colours(self):
        spots = tuple([("fill", box_of(x, x + 1, y, y + 1), (x * x + 3 * y * x + y) % 10)
                       for x in range(-9, 9) for y in range(-3, 3)])
        told = neighbours((1, 1), spots)
        self.assertEqual(told, pairs_by_going_through((1, 1), spots))
        self.assertGreater(len(told), 20)

    def test_the_lists_are_new(self):
        expect_new_lists(self, neighbours, FRAME, ONE)
        expect_new_lists(self, neighbours, FRAME, ())


class LooksTest(unittest.TestCase):
    def test_against_going_through_all_settings(self):
        many = 0
        for frame, program in many_programs(90):
            told = call_both_ways(self, looks, frame=frame, program=program)
            self.assertEqual(told, looks_by_going_through(frame, program), (frame, program))
            many = max(many, len(told))
        self.assertGreater(many, 10)

    def test_told_programs(self):
        self.assertEqual(looks(FRAME, ()), [[]])
        self.assertEqual(looks(FRAME, ONE), [[], [[1]]])
        self.assertEqual(looks(FRAME, OTHER), [[[1]]])
        dots = (("fill", DOT, 7), ("fill", AT, 3))
        self.assertEqual(looks(FRAME, dots), [[[3]], [[3, 0, 7]], [[3, 7]], [[7, 0, 3]], [[7, 3]]])

    def test_ascending_as_lists_are_compared(self):
        program = (("fill", DOT, 7), ("fill", ((1, 0), (1, 1), (1, 0), (1, 1)), 3))
        told = looks((2, 2), program)
        self.assertEqual(told, sorted(told))
        self.assertGreater(len(told), 20)
        self.assertEqual({len(each) for each in told}, {1, 2, 3})
        self.assertEqual(told, looks_by_going_through((2, 2), program))

    def test_the_lists_are_new(self):
        for frame, program in edge_programs().values():
            expect_new_lists(self, looks, frame, program)


class IdleTest(unittest.TestCase):
    def test_against_going_through_all_settings(self):
        told = [0, 0]
        for frame, program in many_programs(70):
            if sum(frame) <= 3:
                due = tuple([[k for k in range(many) if not matters(frame, program, place, k)]
                             for place, many in enumerate(frame)])
                self.assertEqual(call_both_ways(self, idle, frame=frame, program=program), due)
                told[due == ([], [])] += 1
        self.assertGreater(min(told), 8)

    def test_told_programs(self):
        self.assertEqual(idle((3, 3), ()), ([0, 1, 2], [0, 1, 2]))
        self.assertEqual(idle((3, 2), (("fill", ((0, 0), (0, 1), (1, 0), (1, 1)), 1),)), ([1, 2], [0]))
        self.assertEqual(idle((1, 1), (("fill", DOT, 1),)), ([], []))
        self.assertEqual(idle((2, 1), (("fill", DOT, 0), ("fill", AT, 0))), ([0, 1], [0]))
        nowhere = ("clip", box_of(2, 2, 0, 1), (("fill", AT, 5),))
        self.assertEqual(idle((2, 1), (nowhere, ("fill", DOT, 1))), ([1], []))

    def test_tests_alone_can_matter(self):
        red = (("fill", DOT, 1),)
        other = (("fill", DOT, 2),)
        for program, due in (
                ((("if", "x", (1, 0), (0, 0), red, other),), ([], [])),
                ((("if", "x", (1, 0), (0, 0), red, red),), ([1], [])),
                ((("if", "x", (1, 0), (1, 1), red, other),), ([1], [])),
                ((("if", "x", (1, 9), (0, -9), red, other),), ([], []))):
            self.assertEqual(idle(FRAME, program), due)

    def test_amounts_of_9(self):
        program = (("fill", ((0, 9), (0, 9), (0, 0), (0, 1)), 1), ("fill", ((1, 9), (1, 9), (0, 9), (0, 9)), 2))
        self.assertEqual(idle(FRAME, program), ([0, 1], [0]))
        program = (("fill", ((0, 8), (0, 9), (0, 0), (0, 1)), 1), ("fill", ((1, 9), (0, -9), (0, 8), (0, 9)), 2))
        self.assertEqual(idle(FRAME, program), ([], []))

    def test_the_lists_are_new(self):
        expect_new_lists(self, idle, (3, 3), ())
        expect_new_lists(self, idle, FRAME, ONE)


class StatementsTest(unittest.TestCase):
    def test_exchangeable_against_going_through_all_settings(self):
        found = set()
        for frame, program in many_programs(90):
            due = [k for k in range(len(program) - 1) if paint_alike(
                frame, program[:k] + (program[k + 1], program[k]) + program[k + 2:], program)]
            self.assertEqual(call_both_ways(self, exchangeable, frame=frame, program=program), due)
            found.add(str(due))
        self.assertGreater(len(found), 6)

    def test_needless_against_going_through_all_settings(self):
        found = set()
        for frame, program in many_programs(90):
            due = [k for k in range(len(program))
                   if paint_alike(frame, program[:k] + program[k + 1:], program)]
            self.assertEqual(call_both_ways(self, needless, frame=frame, program=program), due)
            found.add(str(due))
        self.assertGreater(len(found), 8)

    def test_least_parts_against_going_through_all_lists(self):
        found = set()
        for frame, program in many_programs(90):
            if len(program) < 6:
                due = least_by_going_through(frame, program)
                self.assertEqual(call_both_ways(self, least_parts, frame=frame, program=program), due)
                found.add(str(due))
        self.assertGreater(len(found), 10)

    def test_the_example(self):
        self.assertEqual(exchangeable(FRAME, ONE + OTHER), [0])
        self.assertEqual(needless(FRAME, ONE + OTHER), [])
        self.assertEqual(least_parts(FRAME, ONE + OTHER), [[0, 1]])
        self.assertEqual(needless(FRAME, ONE + OTHER + ONE), [0, 2])
        self.assertEqual(least_parts(FRAME, ONE + OTHER + ONE), [[0, 1], [1, 2]])

    def test_the_empty_program(self):
        for function, due in ((exchangeable, []), (needless, []), (least_parts, [[]])):
            self.assertEqual(function(FRAME, ()), due)

    def test_one_statement(self):
        self.assertEqual(exchangeable(FRAME, ONE), [])
        self.assertEqual(needless(FRAME, ONE), [])
        self.assertEqual(least_parts(FRAME, ONE), [[0]])
        bare = (("fill", WIDE, 0),)
        self.assertEqual(needless(FRAME, bare), [0])
        self.assertEqual(least_parts(FRAME, bare), [[]])

    def test_a_part_that_is_enough_inside_of_one_that_is_not(self):
        red, bare = ("fill", DOT, 1), ("fill", DOT, 0)
        program = (red, bare, red)
        self.assertEqual(least_parts(FRAME, program), [[0], [2]])
        self.assertEqual(needless(FRAME, program), [0, 1])
        program = (red, bare)
        self.assertEqual(least_parts(FRAME, program), [[]])
        self.assertEqual(needless(FRAME, program), [0])
        self.assertEqual(exchangeable(FRAME, program), [])

    def test_parts_keep_their_sequence(self):
        red, around = ("fill", DOT, 1), ("fill", box_of(-1, 2, -1, 2), 2)
        self.assertEqual(least_parts(FRAME, (red, around, red)), [[1, 2]])
        self.assertEqual(least_parts(FRAME, (around, red, around)), [[0], [2]])
        self.assertEqual(needless(FRAME, (red, around, red)), [0])
        self.assertEqual(exchangeable(FRAME, (red, around, red)), [0])

    def test_shorter_parts_first(self):
        left, right = ("fill", box_of(0, 1, 0, 1), 1), ("fill", box_of(1, 2, 0, 1), 1)
        both = ("fill", box_of(0, 2, 0, 1), 1)
        self.assertEqual(least_parts(FRAME, (left, right, both)), [[2], [0, 1]])
        self.assertEqual(least_parts(FRAME, (both, left, right, both)), [[0], [3], [1, 2]])
        self.assertEqual(exchangeable(FRAME, (left, right, both)), [0, 1])

    def test_statements_with_programs_inside(self):
        red, blue = ("fill", DOT, 1), ("fill", AT, 2)
        below = ("if", "x", (0, 0), (1, 0), (red, blue), ())
        above = ("if", "x", (0, -1), (1, 0), (), (red, blue))
        self.assertEqual(exchangeable(FRAME, (below, above)), [0])
        self.assertEqual(least_parts(FRAME, (below, above, red, blue)), [[2, 3], [0, 1, 3]])
        self.assertEqual(needless(FRAME, (below, above, red, blue)), [0, 1, 2])
        self.assertEqual(exchangeable(FRAME, (red, blue)), [])
        nowhere = ("clip", box_of(0, 0, 0, 1), (red,))
        self.assertEqual(exchangeable(FRAME, (nowhere, blue, red)), [0])
        self.assertEqual(exchangeable(FRAME, (blue, below, nowhere)), [0, 1])

    def test_the_lists_are_new(self):
        program = ONE + OTHER + ONE
        for function in (exchangeable, needless, least_parts):
            expect_new_lists(self, function, FRAME, program)
            expect_new_lists(self, function, FRAME, ())


class WrongArgumentsTest(unittest.TestCase):
    def test_wrong_frames(self):
        for frame in wrong_frames():
            for program in (ONE, None):
                for function in READERS:
                    expect(self, InvalidFrame, function, frame, program)
                expect(self, InvalidFrame, seen_at, frame, program, None)

    def test_wrong_programs(self):
        for program in odd_values() + wrong_programs(FRAME, MIXED[2:4]):
            for function in READERS:
                expect(self, InvalidProgram, function, FRAME, program)
            for index in (0, -1, None):
                expect(self, InvalidProgram, seen_at, FRAME, program, index)

    def test_a_program_of_a_greater_frame(self):
        for function in READERS:
            expect(self, InvalidProgram, function, (1, 3), ONE)
        expect(self, InvalidProgram, seen_at, (1, 3), ONE, 0)

    def test_errors_by_name(self):
        for function in READERS:
            with self.assertRaises(InvalidProgram):
                function(program=None, frame=FRAME)
            with self.assertRaises(InvalidFrame):
                function(program=None, frame=None)
        with self.assertRaises(InvalidIndex):
            seen_at(index=True, program=ONE + ONE, frame=FRAME)
        with self.assertRaises(InvalidProgram):
            seen_at(index=True, program=None, frame=FRAME)


if __name__ == "__main__":
    unittest.main()

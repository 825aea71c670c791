"""Promise 12: alike programs, by the conventions [2], the definition [6] and the facts of [7]."""

import functools
import itertools
import random
import unittest

from tests.samples import (
    ONE, OTHER, beyond_close, box_of, call_both_ways, colours, edge_programs, expect,
    expect_new_lists, odd_values, random_facts, small_programs, wide_programs, wrong_frames)
from tests.test_facts import wrong_facts
from tests.test_programs import MIXED, wrong_programs
from unknowncorners.alike import alike, least_facts, parting, under
from unknowncorners.errors import InvalidFacts, InvalidFrame, InvalidProgram

FRAME = (2, 1)
GREATER = ("x", 1, 0, 2)
LESS = ("x", 0, 1, -2)
NEVER = ("x", 0, 0, 1)
ALWAYS = ("x", 1, 1, 0)
COMPARED = (alike, parting, under, least_facts)


def keeps_all(facts, setting):
    for axis, first, second, least in facts:
        values = setting["xy".index(axis)]
        if values[first] - values[second] < least:
            return False
    return True


@functools.lru_cache(maxsize=None)
def unlike_settings(frame, one, other, least):
    """Where two programs differ: for each plain setting, also beyond the close ones, the cells."""
    found = []
    for setting in beyond_close(frame, [one, other], least):
        mine, others = colours(one, setting), colours(other, setting)
        cells = [cell for cell in set(mine) | set(others) if mine.get(cell, 0) != others.get(cell, 0)]
        found.append((setting, sorted(cells)))
    return found


def parting_by_going_through(frame, one, other, facts=()):
    for setting, cells in unlike_settings(frame, one, other, 6 if facts else 0):
        if cells and keeps_all(facts, setting):
            return setting, cells[0]
    return None


def under_by_going_through(frame, one, other):
    for setting in beyond_close(frame, [one, other]):
        others = colours(other, setting)
        if any(others.get(cell, 0) != colour for cell, colour in colours(one, setting).items()):
            return False
    return True


def possible_by_going_through(frame, facts):
    """Whether some setting of values from 0 to 13 keeps the facts."""
    for axis, many in zip("xy", frame):
        own = [fact for fact in facts if fact[0] == axis]
        rows = itertools.product(range(14), repeat=many)
        if not any(keeps_all(own, (row, row)) for row in rows):
            return False
    return True


def least_by_going_through(frame, one, other, wishes):
    """The least lists of wishes, by going through all lists of indexes."""
    enough = []
    for many in range(len(wishes) + 1):
        for indexes in itertools.combinations(range(len(wishes)), many):
            facts = [wishes[k] for k in indexes]
            if (possible_by_going_through(frame, facts)
                    and not any(cells for setting, cells in unlike_settings(frame, one, other, 6)
                                if keeps_all(facts, setting))):
                enough.append(list(indexes))
    return [row for row in enough if not any(set(part) < set(row) for part in enough)]


def changed(chance, frame, program):
    """A program that is perhaps alike to another one."""
    k = chance.randrange(len(program) + 1)
    dot = ("fill", box_of(0, 1, 0, 1), 1)
    corners = [(number, chance.randint(-1, 1)) for number in (frame[0] - 1, 0)]
    test = ("if", "x", *corners, program[k:], program[k + 1:])
    turned = ("if", "x", *corners, (dot,), program[k:])
    bar = ("fill", (*corners, (frame[1] - 1, 0), (0, 1)), 2)
    return chance.choice((
        program[:k] + (test,), program[:k] + (turned,), program[:k] + (bar,) + program[k:],
        program[:k] + (test,), program[:k] + (turned,), program[:k] + (bar,) + program[k:],
        program[:k] + program[k + 1:],
        program[k:] + program[:k],
        program + program[k:k + 1],
        program[:k] + (("move", 1, 0, (("move", -1, 0, program[k:]),)),),
        program[:k] + (("if", "x", (0, 0), (0, chance.randint(0, 1)), program[k:], (dot,)),),
        program[:k] + (("if", "y", (0, 0), (0, 0), (), program[k:]), ("fill", box_of(1, 1, 0, 9), 3)),
        (("clip", box_of(-3, 3, -3, 3), program),),
        (("move", chance.randint(-1, 1), chance.randint(-1, 1), program),)))


def many_pairs(count):
    """Frames with two programs each, some of them alike."""
    chance = random.Random(21)
    for frame, program in list(edge_programs().values()) + list(small_programs(count)):
        yield frame, program, changed(chance, frame, program)


def mild_facts(chance, frame, many):
    """Facts that are often possible, most of them on an axis with several unknowns."""
    facts = []
    for axis, first, second, least in random_facts(chance, frame, many):
        axis = "x" if frame[0] > 1 and chance.random() < 0.8 else axis
        most = frame["xy".index(axis)] - 1
        first, second = sorted((chance.randint(0, most), chance.randint(0, most)))
        least = min(least, 0) if first == second else least
        facts.append(chance.choice(((axis, second, first, least), (axis, first, second, -least))))
    return facts


class AlikeAndPartingTest(unittest.TestCase):
    def both(self, frame, one, other, *facts):
        """What parting says; alike has to say the same."""
        told = parting(frame, one, other, *facts)
        self.assertIs(alike(frame, one, other, *facts), told is None)
        return told

    def test_against_going_through_all_settings(self):
        told = [0, 0]
        for frame, one, other in many_pairs(140):
            due = parting_by_going_through(frame, one, other)
            self.assertEqual(self.both(frame, one, other), due, (frame, one, other))
            self.assertEqual(self.both(frame, other, one), due, (frame, one, other))
            told[due is None] += 1
        self.assertGreater(min(told), 30)

    def test_under_facts(self):
        chance = random.Random(22)
        made_alike = 0
        for frame, one, other in many_pairs(140):
            for many in (1, 2, 3):
                facts = mild_facts(chance, frame, many)
                due = parting_by_going_through(frame, one, other, facts)
                self.assertEqual(self.both(frame, one, other, facts), due, (frame, one, other, facts))
                made_alike += due is None and parting_by_going_through(frame, one, other) is not None
        self.assertGreater(made_alike, 10)

    def test_by_position_and_by_name(self):
        for function in (alike, parting):
            for facts in ((), [], [GREATER], [GREATER, LESS]):
                call_both_ways(self, function, frame=FRAME, one=ONE, other=OTHER, facts=facts)
            call_both_ways(self, function, frame=FRAME, one=ONE, other=OTHER)

    def test_the_example(self):
        self.assertIs(alike(FRAME, ONE, OTHER), False)
        self.assertEqual(parting(FRAME, ONE, OTHER), (([0, 0], [0]), (0, 0)))
        self.assertIs(alike(FRAME, ONE, OTHER, [GREATER, LESS]), True)
        self.assertIsNone(parting(FRAME, ONE, OTHER, [GREATER, LESS]))
        self.assertEqual(parting(FRAME, ONE, OTHER, [GREATER]), (([0, 3], [0]), (2, 0)))
        self.assertEqual(parting(FRAME, ONE, OTHER, [LESS]), (([0, 0], [0]), (0, 0)))

    def test_kinds(self):
        told = parting(FRAME, ONE, OTHER)
        setting, cell = told
        self.assertEqual([type(part) for part in (told, setting, cell, *setting)],
                         [tuple, tuple, tuple, list, list])
        self.assertEqual([type(item) for item in (*cell, *setting[0], *setting[1])], [int] * 5)

    def test_a_program_with_itself(self):
        for frame, program in list(edge_programs().values()) + list(wide_programs().values()):
            self.assertIsNone(self.both(frame, program, program))
            self.assertIsNone(self.both(frame, program, program, [("y", 0, 0, 0)]))

    def test_programs_that_paint_nothing(self):
        names = ("empty", "without cells", "bare alone", "bare over all", "empty clips")
        for name, second in itertools.product(names, repeat=2):
            one, other = edge_programs()[name][1], edge_programs()[second][1]
            self.assertIsNone(self.both(FRAME, one, other))
            self.assertEqual(self.both(FRAME, one, OTHER), (([0, 0], [0]), (0, 0)))

    def test_bare_differs_from_each_colour(self):
        box = box_of(0, 1, 0, 1)
        for first, second in itertools.product(range(10), repeat=2):
            due = None if first == second else (([0], [0]), (0, 0))
            self.assertEqual(
                self.both((1, 1), (("fill", box, first),), (("fill", box, second),)), due)

    def test_no_facts_and_facts_without_weight(self):
        due = parting(FRAME, ONE, OTHER)
        for facts in ((), [], [ALWAYS], [ALWAYS, ALWAYS], [("y", 0, 0, -6)], [("x", 0, 0, 0)]):
            self.assertEqual(self.both(FRAME, ONE, OTHER, facts), due)
        due = parting(FRAME, ONE, OTHER, [GREATER])
        self.assertEqual(self.both(FRAME, ONE, OTHER, [GREATER, GREATER]), due)
        self.assertEqual(self.both(FRAME, ONE, OTHER, [ALWAYS, GREATER, ("x", 1, 0, 1)]), due)

    def test_facts_that_are_not_possible(self):
        for facts in ([NEVER], [("y", 0, 0, 6)], [GREATER, ("x", 0, 1, -1)], [ALWAYS, NEVER, LESS],
                      [("x", 0, 1, 6), ("x", 1, 0, 6)]):
            self.assertIs(alike(FRAME, ONE, OTHER, facts), True)
            self.assertIsNone(parting(FRAME, ONE, OTHER, facts))

    def test_leasts_beyond_the_reach(self):
        flat = (("fill", ((0, 0), (1, 0), (0, 0), (1, 0)), 1),)
        self.assertEqual(self.both((2, 2), flat, ()), (([0, 1], [0, 1]), (0, 0)))
        self.assertEqual(self.both((2, 2), flat, (), [("x", 1, 0, 6)]), (([0, 6], [0, 1]), (0, 0)))
        self.assertEqual(self.both((2, 2), flat, (), [("y", 1, 0, 5), ("x", 0, 1, -6)]),
                         (([0, 1], [0, 5]), (0, 0)))
        self.assertIsNone(self.both((2, 2), flat, (), [("x", 0, 1, 6)]))
        three = (("fill", ((0, 0), (2, 0), (0, 0), (0, 1)), 1),)
        facts = [("x", 1, 0, 6), ("x", 2, 1, 6)]
        self.assertEqual(self.both((3, 1), three, (), facts), (([0, 6, 12], [0]), (0, 0)))
        self.assertEqual(self.both((3, 1), three, (), [("x", 1, 2, 6), ("x", 2, 0, -6)]),
                         (([0, 7, 1], [0]), (0, 0)))

    def test_the_least_of_several_settings_and_cells(self):
        wide = (("fill", ((0, 0), (1, 2), (0, 0), (0, 2)), 1), ("fill", box_of(-1, 0, 1, 3), 1))
        self.assertEqual(self.both(FRAME, wide, ()), (([0, 0], [0]), (-1, 1)))
        high = (("fill", ((0, 1), (1, 4), (0, -3), (0, -1)), 1),)
        self.assertEqual(self.both(FRAME, high, ()), (([0, 0], [0]), (1, -3)))
        late = (("if", "x", (1, 1), (0, 0), high, ()),)
        self.assertEqual(self.both(FRAME, late, ()), (([2, 0], [0]), (3, -3)))

    def test_beyond_the_limits(self):
        chance = random.Random(23)
        for name, (frame, program) in wide_programs().items():
            for _ in range(4):
                other = changed(chance, frame, program)
                due = parting_by_going_through(frame, program, other)
                self.assertEqual(self.both(frame, program, other), due, name)
                facts = mild_facts(chance, frame, 2)
                due = parting_by_going_through(frame, program, other, facts)
                self.assertEqual(self.both(frame, program, other, facts), due, name)

    def test_three_by_three(self):
        box = ((0, 0), (1, 0), (1, 0), (2, 0))
        one, other = (("fill", box, 1),), (("clip", box, (("fill", ((2, 0),) + box[1:], 1),)),)
        self.assertEqual(self.both((3, 3), one, other), (([0, 1, 1], [0, 0, 1]), (0, 0)))
        self.assertIsNone(self.both((3, 3), one, other, [("x", 0, 2, 0)]))
        self.assertIsNone(self.both((3, 3), one, other, [("x", 0, 1, 0)]))
        self.assertEqual(self.both((3, 3), one, other, [("y", 0, 1, 2)]),
                         (([0, 1, 1], [2, 0, 1]), (0, 0)))

    def test_far_apart(self):
        one = (("fill", ((0, 9), (1, -9), (0, 0), (0, 1)), 1),)
        self.assertEqual(self.both(FRAME, one, ()), (([0, 19], [0]), (9, 0)))
        moved = (("move", 9, 0, (("fill", ((0, 9), (0, 9), (0, 0), (0, 1)), 2),)),
                 ("move", -9, -9, (("move", -9, 9, (
                     ("clip", ((0, 9), (1, 9), (0, 0), (0, 1)), (("fill", ((0, 9), (1, -9), (0, 0), (0, 1)), 1),)),)),)))
        self.assertEqual(self.both(FRAME, moved, ()), (([0, 19], [0]), (-9, 0)))

    def test_the_lists_are_new(self):
        expect_new_lists(self, parting, FRAME, ONE, OTHER)
        expect_new_lists(self, parting, (1, 1), (("fill", box_of(0, 1, 0, 1), 1),), ())
        expect_new_lists(self, parting, FRAME, ONE, OTHER, [GREATER])


class UnderTest(unittest.TestCase):
    def test_against_going_through_all_settings(self):
        told = [0, 0]
        for frame, one, other in many_pairs(60):
            for first, second in ((one, other), (other, one), (one, one + other), (other, one + other)):
                due = under_by_going_through(frame, first, second)
                self.assertIs(under(frame, first, second), due, (frame, first, second))
                told[due] += 1
        self.assertGreater(min(told), 30)

    def test_told_programs(self):
        small, great = (("fill", box_of(0, 1, 0, 1), 3),), (("fill", box_of(-1, 2, 0, 1), 3),)
        dark, bare = (("fill", box_of(-1, 2, 0, 1), 4),), (("fill", box_of(0, 1, 0, 1), 0),)
        for one, other, due in (
                (small, great, True), (great, small, False), (small, dark, False), (small, small, True),
                ((), small, True), (small, (), False), ((), (), True), (bare, (), True), (bare, dark, True),
                (great + bare, great, True), (great, great + bare, False), (ONE, OTHER, False)):
            told = call_both_ways(self, under, frame=FRAME, one=one, other=other)
            self.assertIs(told, due)

    def test_beyond_the_limits(self):
        for frame, program in wide_programs().values():
            for other in (program[1:], program + program[:1]):
                self.assertIs(under(frame, other, program), under_by_going_through(frame, other, program))


class LeastFactsTest(unittest.TestCase):
    def test_against_going_through_all_lists(self):
        chance = random.Random(24)
        found = set()
        for frame, one, other in many_pairs(140):
            for many in (chance.randint(0, 2), chance.randint(2, 4)):
                wishes = mild_facts(chance, frame, many)
                told = call_both_ways(self, least_facts, frame=frame, one=one, other=other,
                                      wishes=wishes)
                self.assertEqual(told, least_by_going_through(frame, one, other, wishes))
                found.add(str(told))
        self.assertGreater(len(found), 6)

    def test_the_example(self):
        self.assertEqual(least_facts(FRAME, ONE, OTHER, [GREATER, LESS]), [[0, 1]])
        self.assertEqual(least_facts(FRAME, ONE, OTHER, [GREATER]), [])
        self.assertEqual(least_facts(FRAME, ONE, OTHER, [LESS, ALWAYS, GREATER]), [[0, 2]])

    def test_no_wishes(self):
        self.assertEqual(least_facts(FRAME, ONE, OTHER, []), [])
        self.assertEqual(least_facts(FRAME, ONE, ONE, []), [[]])

    def test_alike_without_facts(self):
        self.assertEqual(least_facts(FRAME, ONE, ONE, [GREATER, LESS, NEVER]), [[]])
        self.assertEqual(least_facts(FRAME, (), (), [NEVER]), [[]])

    def test_equal_wishes(self):
        self.assertEqual(least_facts(FRAME, ONE, OTHER, [GREATER, LESS, GREATER]), [[0, 1], [1, 2]])
        self.assertEqual(least_facts(FRAME, ONE, OTHER, [LESS, LESS, GREATER, GREATER]),
                         [[0, 2], [0, 3], [1, 2], [1, 3]])
        self.assertEqual(least_facts(FRAME, ONE, (), [("x", 0, 1, 0)] * 6), [[k] for k in range(6)])

    def test_wishes_that_are_not_possible(self):
        self.assertEqual(least_facts(FRAME, ONE, OTHER, [NEVER]), [])
        self.assertEqual(least_facts(FRAME, ONE, OTHER, [NEVER, GREATER, LESS]), [[1, 2]])
        self.assertEqual(least_facts(FRAME, ONE, OTHER, [("x", 1, 0, 3), LESS]), [])
        self.assertEqual(least_facts(FRAME, ONE, OTHER, [("x", 1, 0, 3), LESS, GREATER]), [[1, 2]])

    def test_shorter_ones_first(self):
        # Where 0 to 1 has no cells; where 1 is not more than 2, and this not more than 0.
        one = (("fill", ((0, 0), (1, 0), (0, 0), (0, 1)), 1),)
        wishes = [("x", 2, 1, 0), ("x", 0, 2, 0), ("x", 0, 1, 0), ("x", 0, 1, 2)]
        self.assertEqual(least_facts((3, 1), one, (), wishes), [[2], [3], [0, 1]])
        self.assertEqual(least_facts((3, 1), one, (), wishes[::-1]), [[0], [1], [2, 3]])

    def test_on_both_axes(self):
        one = (("fill", ((0, 0), (1, 0), (0, 0), (1, 0)), 1),)
        wishes = [("y", 0, 1, 0), ("x", 1, 0, 0), ("x", 0, 1, 0), ("y", 1, 0, 0), ("x", 0, 1, 6)]
        self.assertEqual(least_facts((2, 2), one, (), wishes), [[0], [2], [4]])
        other = (("fill", ((0, 0), (0, 2), (0, 0), (0, 3)), 1),)
        wishes = [("x", 1, 0, 2), ("y", 0, 1, -3), ("x", 0, 1, -2), ("y", 1, 0, 3), ("x", 1, 0, -6)]
        self.assertEqual(least_facts((2, 2), one, other, wishes), [[0, 1, 2, 3]])

    def test_the_lists_are_new(self):
        expect_new_lists(self, least_facts, FRAME, ONE, OTHER, [GREATER, LESS, GREATER])
        expect_new_lists(self, least_facts, FRAME, ONE, ONE, [])
        expect_new_lists(self, least_facts, FRAME, ONE, OTHER, [])


class WrongArgumentsTest(unittest.TestCase):
    def calls(self, frame, one, other):
        """Each function, with good facts or wishes where it takes them."""
        return [(alike, frame, one, other), (alike, frame, one, other, [GREATER]),
                (parting, frame, one, other), (parting, frame, one, other, ()),
                (under, frame, one, other), (least_facts, frame, one, other, [GREATER])]

    def test_wrong_frames(self):
        for frame in wrong_frames():
            for call in self.calls(frame, ONE, OTHER) + self.calls(frame, None, [ONE]):
                expect(self, InvalidFrame, *call)
            expect(self, InvalidFrame, alike, frame, ONE, OTHER, None)
            expect(self, InvalidFrame, least_facts, frame, ONE, OTHER, ())

    def test_wrong_programs(self):
        for program in odd_values() + wrong_programs(FRAME, MIXED[2:4]):
            for call in self.calls(FRAME, program, OTHER) + self.calls(FRAME, ONE, program):
                expect(self, InvalidProgram, *call)
            for function in (alike, parting, least_facts):
                expect(self, InvalidProgram, function, FRAME, ONE, program, None)

    def test_a_program_of_a_greater_frame(self):
        for call in self.calls((1, 2), ONE, ()) + self.calls((1, 2), (), ONE):
            expect(self, InvalidProgram, *call)

    def test_wrong_facts(self):
        for facts in wrong_facts():
            expect(self, InvalidFacts, least_facts, FRAME, ONE, OTHER, facts)
            if type(facts) is not tuple or len(facts) > 0:
                expect(self, InvalidFacts, alike, FRAME, ONE, OTHER, facts)
                expect(self, InvalidFacts, parting, FRAME, ONE, OTHER, facts)
        for facts in ((GREATER,), (GREATER, LESS), None, False, 0, "", {}, [[]], [()]):
            for function in (alike, parting, least_facts):
                expect(self, InvalidFacts, function, FRAME, ONE, OTHER, facts)
                expect(self, InvalidFacts, function, FRAME, ONE, ONE, facts)

    def test_wishes_are_no_tuple(self):
        expect(self, InvalidFacts, least_facts, FRAME, ONE, OTHER, ())
        expect(self, InvalidFacts, least_facts, FRAME, ONE, ONE, ())

    def test_errors_by_name(self):
        for function in (alike, parting):
            with self.assertRaises(InvalidFacts):
                function(facts=None, other=ONE, one=ONE, frame=FRAME)
            with self.assertRaises(InvalidProgram):
                function(facts=None, other=None, one=ONE, frame=FRAME)
        with self.assertRaises(InvalidFacts):
            least_facts(wishes=(), other=ONE, one=ONE, frame=FRAME)
        with self.assertRaises(InvalidFrame):
            least_facts(wishes=(), other=None, one=None, frame=None)
        with self.assertRaises(InvalidProgram):
            under(other=[], one=ONE, frame=FRAME)


if __name__ == "__main__":
    unittest.main()

"""Promise 15: easels, by the conventions [2], the facts [6] and what [11] says of pictures."""

import copy
import random
import unittest

from tests.samples import (
    FRAMES, HUGE, Grown, box_of, call_both_ways, colours, edge_programs, expect, framed_cells, lists_in,
    odd_values, unlike_integers, wide_programs, wrong_frames)
from tests.test_alike import mild_facts
from tests.test_facts import wrong_facts
from tests.test_programs import MIXED, wrong_programs, wrong_statements
from unknowncorners.easels import CarefulCountingEasel, CarefulEasel, CountingEasel, Easel
from unknowncorners.errors import (
    Impossible, InvalidFacts, InvalidFrame, InvalidIndex, InvalidProgram, InvalidStatement, InvalidText,
    InvalidValue, NothingToUndo, PaintError)
from unknowncorners.painting import picture, repaint
from unknowncorners.paintings import Painting
from unknowncorners.settings import keeps, least_setting, possible

FRAME = (2, 1)
DOT = ("fill", box_of(0, 1, 0, 1), 1)
BLUE = ("fill", box_of(0, 2, -1, 1, 1), 2)
GREATER = ("x", 1, 0, 2)
LESS = ("x", 1, 0, -3)
CLASSES = (Easel, CountingEasel, CarefulEasel, CarefulCountingEasel)
COUNTING = (CountingEasel, CarefulCountingEasel)
CAREFUL = (CarefulEasel, CarefulCountingEasel)


def make(kind, frame, program, facts=()):
    """An easel of a class; the facts are for a careful one."""
    return kind(frame, program, list(facts)) if kind in CAREFUL else kind(frame, program)


def area_of(told):
    """How many cells of a repaint are painted, cell row by cell row."""
    columns, rows, lines = told
    total = 0
    for top, bottom, line in zip(rows, rows[1:], lines):
        for left, right, colour in zip(columns, columns[1:], line):
            if colour:
                total += (right - left) * (bottom - top)
    return total


class Model:
    """What an easel has to be: the list of its programs and settings, deed by deed."""

    def __init__(self, kind, frame, program, facts):
        self.kind, self.frame, self.facts, self.cells, self.floor = kind, frame, list(facts), 0, 0
        first = least_setting(frame, self.facts) if kind in CAREFUL else tuple([[0] * k for k in frame])
        self.states = [(program, first)]

    def twin(self):
        other = copy.deepcopy(self)
        other.floor = 0
        return other

    def mark(self):
        """Begin a block; what is given takes it back, but for the cells."""
        kept = (list(self.states), self.floor)
        self.floor = len(self.states) - 1
        return kept

    def take_back(self, kept):
        self.states, self.floor = kept

    @property
    def program(self):
        return self.states[-1][0]

    @property
    def setting(self):
        return self.states[-1][1]

    @property
    def deeds(self):
        return len(self.states) - 1

    def put(self, statement):
        self.states.append((self.program + (statement,), self.setting))

    def take(self, index):
        left = list(self.program)
        taken = left.pop(index)
        self.states.append((tuple(left), self.setting))
        return taken

    def later(self, axis, number, by):
        setting = copy.deepcopy(self.setting)
        setting["xy".index(axis)][number] += by
        return setting

    def allows(self, axis, number, by):
        return self.kind not in CAREFUL or keeps(self.frame, self.facts, self.later(axis, number, by))

    def shift(self, axis, number, by):
        later = self.later(axis, number, by)
        told = repaint(self.frame, self.program, self.setting, later)
        self.cells += area_of(told)
        self.states.append((self.program, later))
        return told

    def undo(self):
        self.states.pop()


class Broken(Exception):
    """An error of the tests' own, raised inside of a block."""


class EaselTestCase(unittest.TestCase):
    def check(self, easel, model):
        """The easel is what the model is."""
        self.assertIs(type(easel), model.kind)
        self.assertEqual(easel.frame, model.frame)
        self.assertEqual(repr(easel.program), repr(model.program))
        self.assertEqual(repr(easel.setting), repr(model.setting))
        self.assertEqual(easel.deeds, model.deeds)
        self.assertEqual(easel.picture, picture(model.frame, model.program, model.setting))
        if model.kind in CAREFUL:
            self.assertEqual(easel.facts, model.facts)
            self.assertTrue(keeps(easel.frame, easel.facts, easel.setting))
        if model.kind in COUNTING:
            self.assertEqual(easel.cells, model.cells)

    def state(self, easel):
        """All that an easel tells."""
        told = [easel.frame, easel.program, easel.setting, easel.picture, easel.deeds]
        for kinds, name in ((COUNTING, "cells"), (CAREFUL, "facts")):
            if type(easel) in kinds:
                told.append(getattr(easel, name))
        return repr(told)

    def expect_unchanged(self, error, easel, function, *args):
        before = self.state(easel)
        expect(self, error, function, *args)
        self.assertEqual(self.state(easel), before)


def random_shift(chance, frame):
    axis = chance.choice("xy")
    by = chance.choice((0, 1, -1, 2, -2, 3, -5, 20, 50, -50))
    return axis, chance.randrange(frame["xy".index(axis)]), by


class Player:
    """Does deeds on an easel and on its model, by a fixed course."""

    def __init__(self, test, seed):
        self.test, self.chance = test, random.Random(seed)
        self.done = {}

    def play(self, easel, model, many, depth):
        for _ in range(many):
            names = ["put", "put", "shift", "shift", "shift", "take", "undo", "undo", "tried"]
            names += ["block", "block", "twin"] if depth > 0 else []
            name = self.chance.choice(names)
            self.done[name] = self.done.get(name, 0) + 1
            getattr(self, name)(easel, model, depth)
            self.test.check(easel, model)

    def put(self, easel, model, depth):
        made = Grown(model.frame, self.chance.randrange(10 ** 6), 2, 2, True).program or (DOT,)
        statement = self.chance.choice(made)
        self.test.assertIsNone(easel.put(statement))
        model.put(statement)

    def take(self, easel, model, depth):
        if model.program:
            index = self.chance.randrange(len(model.program))
            self.test.assertEqual(easel.take(index), model.take(index))
        self.test.expect_unchanged(InvalidIndex, easel, easel.take, len(model.program))

    def shift(self, easel, model, depth):
        shift = random_shift(self.chance, model.frame)
        if model.allows(*shift):
            self.test.assertEqual(easel.shift(*shift), model.shift(*shift))
        else:
            self.test.expect_unchanged(Impossible, easel, easel.shift, *shift)

    def undo(self, easel, model, depth):
        if model.deeds > model.floor:
            self.test.assertIsNone(easel.undo())
            model.undo()
        else:
            self.test.expect_unchanged(NothingToUndo, easel, easel.undo)

    def tried(self, easel, model, depth):
        shifts = [random_shift(self.chance, model.frame) for _ in range(self.chance.randrange(4))]
        trial, due = model.twin(), []
        for shift in shifts:
            if not trial.allows(*shift):
                self.test.expect_unchanged(Impossible, easel, easel.tried, shifts)
                return
            trial.shift(*shift)
            due.append(picture(trial.frame, trial.program, trial.setting))
        self.test.assertEqual(easel.tried(shifts), due)
        model.cells = trial.cells

    def block(self, easel, model, depth):
        kept = model.mark()
        many, way = self.chance.randrange(6), self.chance.randrange(3)
        if way == 0:
            with easel.trying() as inside:
                self.test.assertIs(inside, easel)
                self.play(easel, model, many, depth - 1)
        elif way == 1:
            block = easel.trying()
            self.test.assertIs(block.begin(), easel)
            self.play(easel, model, many, depth - 1)
            self.test.assertIsNone(block.finish())
        else:
            with self.test.assertRaises(Broken):
                with easel.trying():
                    self.play(easel, model, many, depth - 1)
                    raise Broken
        model.take_back(kept)

    def twin(self, easel, model, depth):
        twin, other = easel.twin(), model.twin()
        self.test.check(twin, other)
        self.play(twin, other, self.chance.randrange(8), depth - 1)
        self.test.check(easel, model)
        while other.deeds:
            twin.undo()
            other.undo()
        self.test.check(twin, other)
        self.test.expect_unchanged(NothingToUndo, twin, twin.undo)


class CourseTest(EaselTestCase):
    def course(self, kind, frame, program, facts, seed, many=25):
        easel, model = make(kind, frame, program, facts), Model(kind, frame, program, facts)
        self.check(easel, model)
        player = Player(self, seed)
        player.play(easel, model, many, 3)
        while model.deeds:
            self.assertIsNone(easel.undo())
            model.undo()
            self.check(easel, model)
        self.expect_unchanged(NothingToUndo, easel, easel.undo)
        return player.done

    def test_easels_deed_by_deed(self):
        for kind in (Easel, CountingEasel):
            done = {}
            for seed, frame in enumerate(FRAMES * 2):
                program = Grown(frame, seed, 2, 2, True).program
                for name, times in self.course(kind, frame, program, [], seed).items():
                    done[name] = done.get(name, 0) + times
            self.assertEqual(len(done), 7)
            self.assertGreater(min(done.values()), 10)

    def test_careful_easels_deed_by_deed(self):
        chance = random.Random(51)
        for kind in CAREFUL:
            for seed, frame in enumerate(FRAMES * 3):
                facts = mild_facts(chance, frame, chance.randint(1, 3))
                while not possible(frame, facts):
                    facts = mild_facts(chance, frame, chance.randint(1, 3))
                self.course(kind, frame, Grown(frame, seed, 2, 2, True).program, facts, seed)

    def test_edge_programs(self):
        for seed, (frame, program) in enumerate(edge_programs().values()):
            self.course(CLASSES[seed % 4], frame, program, [], seed, 8)
        for seed, (frame, program) in enumerate(wide_programs().values()):
            self.course(CLASSES[seed % 4], frame, program, [], seed, 3)


class MakingTest(EaselTestCase):
    def test_the_beginning(self):
        for kind in CLASSES:
            for frame in FRAMES:
                for program in ((), (DOT,), Grown(frame, 3, 3).program):
                    easel = make(kind, frame, program)
                    self.check(easel, Model(kind, frame, program, []))
                    self.assertEqual(easel.setting, ([0] * frame[0], [0] * frame[1]))
                    self.assertEqual(easel.deeds, 0)

    def test_by_position_and_by_name(self):
        for kind in CLASSES:
            arguments = {"frame": FRAME, "program": MIXED}
            if kind in CAREFUL:
                arguments["facts"] = [GREATER, LESS]
            call_both_ways(self, lambda *args, **more: self.state(kind(*args, **more)), **arguments)

    def test_bases(self):
        careful_counting = make(CarefulCountingEasel, FRAME, ())
        for kind in CLASSES:
            self.assertTrue(issubclass(kind, Easel))
            self.assertIsInstance(careful_counting, kind)
        self.assertFalse(issubclass(CountingEasel, CarefulEasel))
        self.assertFalse(issubclass(CarefulEasel, CountingEasel))

    def test_facts_alone_are_of_the_careful_ones_and_cells_of_the_counting_ones(self):
        for kind in CLASSES:
            easel = make(kind, FRAME, ())
            self.assertEqual(hasattr(easel, "facts"), kind in CAREFUL)
            self.assertEqual(hasattr(easel, "cells"), kind in COUNTING)

    def test_the_least_setting_of_the_facts(self):
        chance = random.Random(52)
        for kind in CAREFUL:
            for frame in FRAMES * 3:
                facts = mild_facts(chance, frame, 3)
                if possible(frame, facts):
                    easel = kind(frame, (DOT,), facts)
                    self.assertEqual(easel.setting, least_setting(frame, facts))
                    self.assertEqual(easel.facts, facts)
                else:
                    expect(self, Impossible, kind, frame, (DOT,), facts)
            self.assertEqual(kind(FRAME, (), [GREATER]).setting, ([0, 2], [0]))
            self.assertEqual(kind(FRAME, (), [GREATER]).deeds, 0)

    def test_wrong_frames(self):
        for kind in CLASSES:
            for wrong in wrong_frames():
                for program in ((), (DOT,), None):
                    expect(self, InvalidFrame, make, kind, wrong, program)
            if kind in CAREFUL:
                expect(self, InvalidFrame, kind, None, (), None)

    def test_wrong_programs(self):
        for kind in CLASSES:
            for wrong in odd_values() + wrong_programs(FRAME, MIXED) + [Painting(FRAME)]:
                expect(self, InvalidProgram, make, kind, FRAME, wrong)
            expect(self, InvalidProgram, make, kind, (1, 1), (BLUE,))

    def test_wrong_facts(self):
        never = [("x", 0, 0, 1)]
        for kind in CAREFUL:
            for wrong in wrong_facts():
                expect(self, InvalidFacts, kind, FRAME, MIXED, wrong)
                expect(self, InvalidProgram, kind, FRAME, [DOT], wrong)
                expect(self, InvalidFrame, kind, [2, 1], MIXED, wrong)
            expect(self, Impossible, kind, FRAME, MIXED, never)
            expect(self, InvalidProgram, kind, FRAME, None, never)
            expect(self, InvalidFrame, kind, None, MIXED, never)
            expect(self, InvalidFacts, kind, FRAME, MIXED, never + [None])
            expect(self, Impossible, kind, FRAME, MIXED, [GREATER, ("x", 0, 1, -1)])

    def test_facts_that_are_changed_later(self):
        for kind in CAREFUL:
            facts = [GREATER]
            easel = kind(FRAME, (DOT,), facts)
            facts.clear()
            self.assertEqual(easel.facts, [GREATER])
            self.expect_unchanged(Impossible, easel, easel.shift, "x", 1, -1)
            facts.append(("x", 0, 1, 6))
            easel.facts.append(("x", 0, 1, 6))
            easel.facts.clear()
            self.assertEqual(easel.facts, [GREATER])
            self.assertEqual(easel.shift("x", 0, -1), ([-1, 1], [0, 1], [[1]]))
            self.assertEqual(easel.twin().facts, [GREATER])
            self.assertIsNot(easel.facts, easel.facts)


class DeedsTest(EaselTestCase):
    def test_put_take_and_undo(self):
        for kind in CLASSES:
            easel = make(kind, FRAME, (DOT,))
            self.assertIsNone(easel.put(BLUE))
            self.assertEqual((easel.program, easel.deeds), ((DOT, BLUE), 1))
            self.assertEqual(easel.take(0), DOT)
            self.assertEqual((easel.program, easel.deeds), ((BLUE,), 2))
            self.assertEqual(easel.shift("x", 1, 1), ([2, 3], [-1, 1], [[1]]))
            self.assertEqual((easel.setting, easel.deeds), (([0, 1], [0]), 3))
            for due in (((BLUE,), ([0, 0], [0]), 2), ((DOT, BLUE), ([0, 0], [0]), 1),
                        ((DOT,), ([0, 0], [0]), 0)):
                self.assertIsNone(easel.undo())
                self.assertEqual((easel.program, easel.setting, easel.deeds), due)
            self.expect_unchanged(NothingToUndo, easel, easel.undo)

    def test_by_name(self):
        for kind in CLASSES:
            one, other = make(kind, FRAME, MIXED), make(kind, FRAME, MIXED)
            for act in (lambda easel: easel.put(statement=BLUE), lambda easel: easel.take(index=2),
                        lambda easel: easel.shift(axis="x", number=1, by=4),
                        lambda easel: easel.shift(by=-4, axis="y", number=0),
                        lambda easel: easel.tried(shifts=[("x", 0, 1), ("y", 0, -2)])):
                told = act(one)
                self.assertEqual(told, act(other))
                self.assertEqual(self.state(one), self.state(other))
            other.put(BLUE), one.put(BLUE)
            self.assertEqual(other.take(2), one.take(index=2))
            self.assertEqual(other.shift("x", 0, 5), one.shift(number=0, by=5, axis="x"))
            self.assertEqual(self.state(one), self.state(other))

    def test_each_index_is_taken(self):
        for kind in CLASSES:
            for index, statement in enumerate(MIXED):
                easel = make(kind, FRAME, MIXED)
                self.assertEqual(easel.take(index), statement)
                self.assertEqual(easel.program, MIXED[:index] + MIXED[index + 1:])
                easel.undo()
                self.assertEqual(easel.program, MIXED)

    def test_repaints_by_going_through_all_cells(self):
        chance = random.Random(53)
        for seed, frame in enumerate(FRAMES * 3):
            easel = Easel(frame, Grown(frame, seed, 3, 3, True).program)
            for _ in range(4):
                axis, number, by = random_shift(chance, frame)
                by = max(-6, min(6, by))
                before = colours(easel.program, easel.setting)
                told = easel.shift(axis, number, by)
                later = colours(easel.program, easel.setting)
                self.assertEqual(told, framed_cells({
                    cell: 1 for cell in set(before) | set(later)
                    if before.get(cell, 0) != later.get(cell, 0)}))
                self.assertEqual(easel.picture, framed_cells(later))

    def test_shifts_by_0_and_as_far_as_they_go(self):
        for kind in CLASSES:
            easel = make(kind, (3, 2), (DOT,))
            self.assertEqual(easel.shift("x", 2, 0), ([], [], []))
            self.assertEqual((easel.deeds, easel.setting), (1, ([0, 0, 0], [0, 0])))
            self.assertEqual(easel.shift("x", 0, 50), ([0, 1, 50, 51], [0, 1], [[1, 0, 1]]))
            self.assertEqual(easel.setting, ([50, 0, 0], [0, 0]))
            self.assertEqual(easel.shift("y", 0, -50), ([50, 51], [-50, -49, 0, 1], [[1], [0], [1]]))
            self.assertEqual(easel.setting, ([50, 0, 0], [-50, 0]))
            easel.shift("y", 1, 1)
            self.assertEqual(easel.setting, ([50, 0, 0], [-50, 1]))
            self.assertEqual(easel.deeds, 4)
            easel.undo(), easel.undo(), easel.undo()
            self.assertEqual((easel.deeds, easel.setting), (1, ([0, 0, 0], [0, 0])))
            easel.undo()
            self.expect_unchanged(NothingToUndo, easel, easel.undo)

    def test_shifts_add_up_without_end(self):
        easel = CountingEasel((1, 1), (DOT,))
        for _ in range(300):
            easel.shift("x", 0, 50)
        self.assertEqual((easel.setting, easel.deeds, easel.cells), (([15000], [0]), 300, 600))
        for _ in range(300):
            easel.undo()
        self.assertEqual((easel.setting, easel.deeds, easel.cells), (([0], [0]), 0, 600))

    def test_wrong_statements(self):
        for kind in CLASSES:
            easel = make(kind, FRAME, MIXED)
            easel.shift("x", 0, 1)
            wrongs = odd_values() + [(), MIXED, [DOT], list(DOT), Painting(FRAME, DOT)]
            for statement in MIXED:
                wrongs += wrong_statements(FRAME, statement)[::7]
            for wrong in wrongs:
                self.expect_unchanged(InvalidStatement, easel, easel.put, wrong)
            easel.undo()
            self.assertEqual(easel.deeds, 0)
            self.expect_unchanged(InvalidStatement, easel, make(kind, (1, 1), ()).put, BLUE)

    def test_wrong_indexes(self):
        for kind in CLASSES:
            for program in ((), MIXED):
                easel, many = make(kind, FRAME, program), len(program)
                wrongs = [value for value in odd_values() if type(value) is not int]
                wrongs += unlike_integers(0) + [-1, -many, many, many + 1, HUGE, -HUGE, "0", [0], (0,)]
                for wrong in wrongs:
                    if many == 0 or wrong != 0 or type(wrong) is not int:
                        self.expect_unchanged(InvalidIndex, easel, easel.take, wrong)

    def wrong_shifts(self):
        good = {"axis": "x", "number": 1, "by": 3}
        axes = [value for value in odd_values() if value != "x"]
        axes += ["z", "X", "Y", "xy", "", ("x",), ["x"], InvalidText(1), "x "]
        wrongs = [value for value in odd_values() if type(value) is not int]
        numbers = wrongs + unlike_integers(0) + unlike_integers(1) + [-1, 2, 3, HUGE, -HUGE, "1"]
        ways = wrongs + unlike_integers(0) + unlike_integers(3) + [51, -51, 52, HUGE, -HUGE, "3", [3]]
        found = [("y", 1, 3), ("y", -1, 3), ("y", 1, 0), ("z", 5, 99), (None, None, None)]
        for name, values in (("axis", axes), ("number", numbers), ("by", ways)):
            found += [tuple({**good, name: value}.values()) for value in values]
        return found

    def test_wrong_shifts(self):
        for kind in CLASSES:
            easel = make(kind, FRAME, (DOT,), [GREATER])
            for wrong in self.wrong_shifts():
                self.expect_unchanged(InvalidValue, easel, easel.shift, *wrong)

    def test_tried_wrong_shifts(self):
        for kind in CLASSES:
            easel = make(kind, FRAME, (DOT,), [GREATER])
            good = ("x", 1, 3)
            wrongs = odd_values() + [(), (good,), good, [list(good)], [good[:2]], [good + (0,)], [good[1:]],
                                     [[good]], [(good,)], {}, "x13", [None], [()], [good, None], [None, good]]
            for wrong in self.wrong_shifts():
                wrongs += [[wrong], [good, wrong], [wrong, good], [good, good, wrong, good]]
            for wrong in wrongs:
                self.expect_unchanged(InvalidValue, easel, easel.tried, wrong)

    def test_errors_inside_of_a_block_change_nothing(self):
        for kind in CLASSES:
            easel = make(kind, FRAME, (DOT,), [GREATER])
            easel.shift("x", 1, 1)
            with easel.trying():
                self.expect_unchanged(NothingToUndo, easel, easel.undo)
                easel.put(BLUE)
                self.expect_unchanged(InvalidStatement, easel, easel.put, None)
                self.expect_unchanged(InvalidIndex, easel, easel.take, 2)
                self.expect_unchanged(InvalidValue, easel, easel.shift, "x", 2, 1)
                self.expect_unchanged(InvalidValue, easel, easel.tried, [("x", 0, 51)])
                easel.undo()
                self.expect_unchanged(NothingToUndo, easel, easel.undo)

    def test_properties_are_new_each_time(self):
        for kind in CLASSES:
            easel = make(kind, FRAME, MIXED)
            easel.shift("x", 1, 5)
            before = self.state(easel)
            for told in (easel.setting, easel.picture, easel.shift("x", 0, 2), easel.tried([("x", 0, 1)] * 2)):
                lists = lists_in(told)
                self.assertEqual(len({id(row) for row in lists}), len(lists))
                for row in lists:
                    row.append("changed")
            easel.undo()
            if kind not in COUNTING:
                self.assertEqual(self.state(easel), before)
            self.assertEqual(easel.setting, ([0, 5], [0]))
            self.assertEqual(easel.picture, picture(FRAME, MIXED, ([0, 5], [0])))
            self.assertEqual(easel.twin().setting, ([0, 5], [0]))

    def test_shifts_stay_as_they_were_passed(self):
        shifts = [("x", 0, 1), ("y", 0, -1)]
        easel = Easel(FRAME, MIXED)
        told = call_both_ways(self, easel.tried, shifts=shifts)
        self.assertEqual(shifts, [("x", 0, 1), ("y", 0, -1)])
        shifts.clear()
        self.assertEqual(easel.tried([("x", 0, 1), ("y", 0, -1)]), told)


class BlocksTest(EaselTestCase):
    def test_the_end_of_a_block(self):
        for kind in CLASSES:
            easel = make(kind, FRAME, (DOT,))
            easel.put(BLUE)
            easel.shift("x", 0, 3)
            due = (easel.program, easel.setting, easel.picture, easel.deeds)
            with easel.trying() as inside:
                self.assertIs(inside, easel)
                self.assertEqual((easel.program, easel.setting, easel.picture, easel.deeds), due)
                easel.put(DOT), easel.take(0), easel.shift("y", 0, 5), easel.undo()
                self.assertEqual(easel.deeds, 4)
            self.assertEqual((easel.program, easel.setting, easel.picture, easel.deeds), due)
            easel.undo(), easel.undo()
            self.assertEqual((easel.program, easel.setting, easel.deeds), ((DOT,), ([0, 0], [0]), 0))

    def test_by_hand(self):
        for kind in CLASSES:
            easel = make(kind, FRAME, (DOT,))
            easel.put(BLUE)
            before = self.state(easel)
            block = easel.trying()
            self.assertIs(block.begin(), easel)
            easel.take(0), easel.undo()
            self.expect_unchanged(NothingToUndo, easel, easel.undo)
            easel.take(1), easel.put(DOT)
            self.assertIsNone(block.finish())
            self.assertEqual(self.state(easel), before)
            easel.undo()
            self.assertEqual(easel.deeds, 0)

    def test_a_block_begins_when_it_is_entered(self):
        easel = Easel(FRAME, ())
        first, second, third = easel.trying(), easel.trying(), easel.trying()
        easel.put(DOT)
        with first:
            self.expect_unchanged(NothingToUndo, easel, easel.undo)
            easel.put(BLUE)
        self.assertEqual(easel.program, (DOT,))
        easel.put(BLUE)
        second.begin()
        self.expect_unchanged(NothingToUndo, easel, easel.undo)
        second.finish()
        self.assertEqual((easel.program, easel.deeds), ((DOT, BLUE), 2))
        easel.undo()
        with third as inside:
            self.assertEqual(inside.deeds, 1)

    def test_an_error_ends_a_block_and_goes_on(self):
        for kind in CLASSES:
            easel = make(kind, FRAME, (DOT,), [GREATER])
            easel.put(BLUE)
            before = self.state(easel)
            for error, act in ((Broken, None), (InvalidStatement, lambda: easel.put(None)),
                               (InvalidValue, lambda: easel.shift("x", 0, 51)),
                               (NothingToUndo, lambda: [easel.undo() for _ in range(9)])):
                with self.assertRaises(error) as caught:
                    with easel.trying():
                        easel.put(DOT)
                        with easel.trying():
                            easel.take(0), easel.put(BLUE)
                            if act is None:
                                raise Broken
                            act()
                self.assertIs(type(caught.exception), error)
                self.assertEqual(self.state(easel), before)
            easel.undo()
            self.assertEqual(easel.program, (DOT,))

    def test_blocks_within_one_another(self):
        easel = Easel(FRAME, (DOT,))
        easel.put(BLUE)
        with easel.trying():
            easel.take(0)
            with easel.trying():
                self.expect_unchanged(NothingToUndo, easel, easel.undo)
                easel.shift("x", 0, 1)
                with easel.trying():
                    easel.shift("x", 0, 2), easel.undo()
                    self.expect_unchanged(NothingToUndo, easel, easel.undo)
                    self.assertEqual(easel.deeds, 3)
                self.assertEqual(easel.setting, ([1, 0], [0]))
                easel.undo()
                self.expect_unchanged(NothingToUndo, easel, easel.undo)
            self.assertEqual((easel.program, easel.deeds), ((BLUE,), 2))
            easel.undo()
            self.expect_unchanged(NothingToUndo, easel, easel.undo)
            self.assertEqual((easel.program, easel.deeds), ((DOT, BLUE), 1))
        easel.undo()
        self.assertEqual((easel.program, easel.deeds), ((DOT,), 0))

    def test_blocks_one_after_another(self):
        easel = CountingEasel(FRAME, (DOT,))
        for _ in range(3):
            with easel.trying():
                easel.put(BLUE)
                easel.shift("x", 0, 1)
            self.assertEqual((easel.program, easel.deeds), ((DOT,), 0))
        self.assertEqual(easel.cells, 3 * area_of(repaint(FRAME, (DOT, BLUE), ([0, 0], [0]), ([1, 0], [0]))))

    def test_a_return_ends_a_block(self):
        easel = Easel(FRAME, (DOT,))

        def program_inside():
            with easel.trying():
                easel.put(BLUE)
                return easel.program

        self.assertEqual(program_inside(), (DOT, BLUE))
        self.assertEqual(easel.program, (DOT,))

    def test_twins(self):
        for kind in CLASSES:
            easel = make(kind, FRAME, (DOT,), [("x", 1, 0, -6)])
            easel.put(BLUE), easel.shift("x", 0, 2)
            twin = easel.twin()
            self.assertIsNot(twin, easel)
            self.assertEqual(self.state(twin), self.state(easel))
            before = self.state(easel)
            twin.take(0), twin.shift("x", 1, 4)
            self.assertEqual(self.state(easel), before)
            before = self.state(twin)
            easel.undo(), easel.undo(), easel.put(DOT), easel.shift("y", 0, -3)
            self.assertEqual(self.state(twin), before)
            for _ in range(4):
                twin.undo()
            self.assertEqual((twin.program, twin.deeds), ((DOT,), 0))
            self.expect_unchanged(NothingToUndo, twin, twin.undo)

    def test_twins_made_inside_of_blocks(self):
        for kind in CLASSES:
            easel = make(kind, FRAME, (DOT,), [("x", 1, 0, -6)])
            easel.put(BLUE)
            with easel.trying():
                easel.shift("x", 0, 2)
                with easel.trying():
                    easel.take(1)
                    twin = easel.twin()
                    easel.put(MIXED[0])
                    self.assertEqual((twin.program, twin.setting, twin.deeds), ((DOT,), ([2, 0], [0]), 3))
                    twin.undo(), twin.undo(), twin.undo()
                    self.assertEqual((twin.program, twin.deeds), ((DOT,), 0))
                    self.expect_unchanged(NothingToUndo, twin, twin.undo)
                    self.assertEqual((easel.program, easel.deeds), ((DOT, MIXED[0]), 4))
                twin = easel.twin()
            self.assertEqual((easel.program, easel.setting, easel.deeds), ((DOT, BLUE), ([0, 0], [0]), 1))
            self.assertEqual((twin.program, twin.setting, twin.deeds), ((DOT, BLUE), ([2, 0], [0]), 2))
            twin.undo(), twin.undo()
            self.expect_unchanged(NothingToUndo, twin, twin.undo)

    def test_a_block_of_a_twin_and_one_of_the_easel(self):
        easel = Easel(FRAME, ())
        easel.put(DOT)
        with easel.trying():
            twin = easel.twin()
            with twin.trying():
                twin.put(BLUE)
                easel.put(MIXED[1])
                self.assertEqual((easel.program, twin.program), ((DOT, MIXED[1]), (DOT, BLUE)))
            self.assertEqual((easel.program, twin.program), ((DOT, MIXED[1]), (DOT,)))
            twin.put(BLUE)
        self.assertEqual((easel.program, twin.program), ((DOT,), (DOT, BLUE)))


class TriedTest(EaselTestCase):
    def test_pictures(self):
        for kind in CLASSES:
            easel = make(kind, FRAME, (DOT,))
            easel.put(BLUE)
            before = (easel.program, easel.setting, easel.deeds)
            told = easel.tried([("x", 1, 4), ("y", 0, -2), ("x", 1, 0), ("x", 0, 50)])
            self.assertEqual(told, [picture(FRAME, (DOT, BLUE), setting) for setting in (
                ([0, 4], [0]), ([0, 4], [-2]), ([0, 4], [-2]), ([50, 4], [-2]))])
            self.assertEqual((easel.program, easel.setting, easel.deeds), before)
            easel.undo()
            self.assertEqual(easel.deeds, 0)

    def test_no_shifts(self):
        for kind in CLASSES:
            easel = make(kind, FRAME, (DOT,))
            self.assertEqual(easel.tried([]), [])
            self.assertIsNot(easel.tried([]), easel.tried([]))

    def test_inside_of_a_block(self):
        easel = CountingEasel(FRAME, (DOT,))
        with easel.trying():
            easel.shift("x", 0, 5)
            self.assertEqual(easel.tried([("x", 0, 5)]), [([10, 11], [0, 1], [[1]])])
            self.assertEqual((easel.setting, easel.deeds, easel.cells), (([5, 0], [0]), 1, 4))
            easel.undo()
            self.expect_unchanged(NothingToUndo, easel, easel.undo)
        self.assertEqual((easel.setting, easel.deeds, easel.cells), (([0, 0], [0]), 0, 4))

    def test_impossible_ways(self):
        for kind in CAREFUL:
            easel = kind(FRAME, (DOT,), [GREATER, LESS])
            self.assertEqual(len(easel.tried([("x", 1, 1), ("x", 0, 1), ("x", 1, -0)])), 3)
            for shifts in ([("x", 1, -1)], [("x", 0, 1)], [("x", 0, 1), ("x", 1, 1)],
                           [("x", 1, 5), ("x", 0, 6)], [("x", 1, 5), ("x", 0, 6), ("x", 0, -6)],
                           [("y", 0, 3)] * 5 + [("x", 1, -50)]):
                self.expect_unchanged(Impossible, easel, easel.tried, shifts)
                with easel.trying():
                    self.expect_unchanged(Impossible, easel, easel.tried, shifts)
                self.expect_unchanged(InvalidValue, easel, easel.tried, shifts + [("x", 2, 0)])
                self.expect_unchanged(InvalidValue, easel, easel.tried, [None] + shifts)


class CountingTest(EaselTestCase):
    def make_all(self):
        return [CountingEasel(FRAME, (DOT, BLUE)), CarefulCountingEasel(FRAME, (DOT, BLUE), [])]

    def test_cells_add_up(self):
        for easel in self.make_all():
            total = 0
            self.assertEqual(easel.cells, 0)
            for axis, number, by in (("x", 1, 3), ("x", 0, 0), ("y", 0, -7), ("x", 0, 50)):
                before = easel.setting
                easel.shift(axis, number, by)
                total += area_of(repaint(FRAME, easel.program, before, easel.setting))
                self.assertEqual(easel.cells, total)
            self.assertGreater(total, 0)

    def test_put_take_and_undo_add_nothing(self):
        for easel in self.make_all():
            easel.shift("x", 1, 3)
            told = easel.cells
            self.assertGreater(told, 0)
            easel.undo(), easel.put(BLUE), easel.take(0), easel.undo(), easel.undo()
            self.assertEqual(easel.cells, told)
            easel.shift("x", 1, 3)
            self.assertEqual(easel.cells, 2 * told)

    def test_cells_stay_behind_a_block_and_behind_tried(self):
        for easel in self.make_all():
            easel.tried([("x", 1, 3), ("x", 1, -3)])
            told = easel.cells
            self.assertGreater(told, 0)
            with easel.trying():
                easel.shift("x", 1, 3)
                with easel.trying():
                    easel.shift("x", 1, -3)
                    easel.undo()
                self.assertEqual(easel.cells, 2 * told)
            self.assertEqual(easel.cells, 2 * told)
            block = easel.trying()
            block.begin().shift("x", 1, 3)
            block.finish()
            with self.assertRaises(Broken):
                with easel.trying():
                    easel.shift("x", 1, -3)
                    raise Broken
            self.assertEqual((easel.setting, easel.deeds), (([0, 0], [0]), 0))
            self.assertGreater(easel.cells, 2 * told)

    def test_the_cells_of_a_twin(self):
        for easel in self.make_all():
            with easel.trying():
                easel.shift("x", 1, 3)
                told, twin = easel.cells, easel.twin()
            self.assertEqual(twin.cells, told)
            twin.shift("x", 1, 5)
            self.assertEqual(easel.cells, told)
            self.assertGreater(twin.cells, told)
            self.assertIs(type(twin), type(easel))
            self.assertEqual(easel.twin().twin().cells, told)

    def test_an_error_counts_nothing(self):
        easel = CarefulCountingEasel(FRAME, (DOT,), [GREATER])
        self.expect_unchanged(Impossible, easel, easel.shift, "x", 0, 1)
        self.expect_unchanged(Impossible, easel, easel.tried, [("x", 1, 9), ("x", 0, 50)])
        self.expect_unchanged(InvalidValue, easel, easel.tried, [("x", 1, 9), ("x", 0, 51)])
        self.assertEqual(easel.cells, 0)


class CarefulTest(EaselTestCase):
    def test_shifts_that_would_not_keep_the_facts(self):
        for kind in CAREFUL:
            easel = kind(FRAME, (DOT, BLUE), [GREATER, ("x", 0, 1, -5)])
            easel.put(DOT)
            self.assertEqual(easel.setting, ([0, 2], [0]))
            for shift in (("x", 1, -1), ("x", 0, 1), ("x", 1, 4), ("x", 1, 50), ("x", 0, -4)):
                self.expect_unchanged(Impossible, easel, easel.shift, *shift)
            for shift in (("x", 1, 3), ("x", 0, 3), ("y", 0, -50), ("x", 1, 0), ("x", 0, -3)):
                before = easel.setting
                told = easel.shift(*shift)
                self.assertEqual(told, repaint(FRAME, easel.program, before, easel.setting))
            self.assertEqual((easel.setting, easel.deeds), (([0, 5], [-50]), 6))

    def test_invalid_value_before_impossible(self):
        for kind in CAREFUL:
            easel = kind(FRAME, (DOT,), [GREATER])
            for shift in (("x", 1, -51), ("x", 2, -1), ("X", 1, -1), ("x", True, -1), ("x", 1, "-1")):
                self.expect_unchanged(InvalidValue, easel, easel.shift, *shift)

    def test_facts_are_kept_inside_of_blocks_and_by_twins(self):
        for kind in CAREFUL:
            easel = kind(FRAME, (DOT,), [GREATER])
            with easel.trying():
                easel.shift("x", 1, 1)
                easel.shift("x", 0, 1)
                self.expect_unchanged(Impossible, easel, easel.shift, "x", 0, 1)
                twin = easel.twin()
            self.expect_unchanged(Impossible, easel, easel.shift, "x", 0, 1)
            self.expect_unchanged(Impossible, twin, twin.shift, "x", 1, -1)
            self.assertEqual(twin.setting, ([1, 3], [0]))
            twin.undo(), twin.undo()
            self.assertEqual((twin.setting, twin.facts), (([0, 2], [0]), [GREATER]))
            self.expect_unchanged(NothingToUndo, twin, twin.undo)

    def test_other_easels_look_at_no_facts(self):
        for kind in (Easel, CountingEasel):
            easel = kind(FRAME, (DOT,))
            easel.shift("x", 1, -50)
            self.assertEqual(easel.setting, ([0, -50], [0]))

    def test_six_facts_on_both_axes(self):
        facts = [("x", 1, 0, 2), ("x", 2, 1, 2), ("x", 0, 2, -6), ("y", 0, 1, 3), ("y", 0, 1, -6), ("y", 1, 1, 0)]
        for kind in CAREFUL:
            easel = kind((3, 2), (DOT,), facts)
            self.assertEqual(easel.setting, ([0, 2, 4], [3, 0]))
            for shift in (("x", 1, 1), ("x", 1, -1), ("x", 2, 3), ("y", 0, -1), ("y", 1, 1)):
                self.expect_unchanged(Impossible, easel, easel.shift, *shift)
            easel.shift("x", 2, 2)
            easel.shift("x", 1, 2)
            self.assertEqual(easel.setting, ([0, 4, 6], [3, 0]))


class ErrorsTest(EaselTestCase):
    def test_all_stand_under_one(self):
        easel = CarefulEasel(FRAME, (), [GREATER])
        for act in (lambda: Easel(None, ()), lambda: easel.put(None), lambda: easel.take(0),
                    lambda: easel.shift("x", 0, 1), lambda: easel.shift("x", 0, 51), easel.undo):
            with self.assertRaises(PaintError):
                act()


if __name__ == "__main__":
    unittest.main()

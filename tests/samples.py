"""Values for the tests, and what several tests do with them."""

import copy
import random

from unknowncorners.errors import InvalidFrame, InvalidText, PaintError

FRAMES = [(across, down) for across in (1, 2, 3) for down in (1, 2, 3)]
HUGE = 10 ** 31 - 1


def odd_values():
    """Values that are no frame, program, setting, list of facts or pair of widths."""
    deep = ()
    for _ in range(39):
        deep = [deep]
    return [
        None, True, False, 0, 1, -1, HUGE, -HUGE, "", "x", "fill", "(1, 1)", "11",
        [0], (0,), [None], (None,), [[]], ([],), [()], ["x"], ("x",), deep, ([], [], []),
        PaintError("x"), InvalidFrame("x"), InvalidText(3), [InvalidText(3)], (PaintError("x"),),
        list(range(20000)), tuple(range(20000)),
    ]


def wrong_frames():
    return odd_values() + [
        (), [], (1,), (1, 1, 1), [1, 1], [2, 2], ([1, 1],), ((1, 1),),
        (0, 1), (1, 0), (4, 1), (1, 4), (-1, 1), (1, -1), (HUGE, 1), (1, HUGE),
        (True, 1), (1, True), (False, 1), (None, 1), (1, None), ("1", 1), (1, "1"), "11",
        ((1,), 1), (1, (1,)), ([1], 1), (1, [1]), (PaintError("x"), 1), (1, PaintError("x")),
    ]


def unlike_integers(value):
    """Values that look like an integer and are none."""
    return [None, bool(value), str(value), (value,), [value], (), PaintError("x")]


def wrong_settings():
    """Values that are no setting of the frame (2, 1)."""
    found = odd_values() + [
        (), [], ([0, 0],), ([0, 0], [0], []), ([0, 0], [0], [0]), [[0, 0], [0]], [(0, 0), (0,)],
        ((0, 0), [0]), ([0, 0], (0,)), ((0, 0), (0,)), ("00", [0]), ([0, 0], "0"),
        ([0], [0]), ([0, 0, 0], [0]), ([], [0]), ([0, 0], []), ([0, 0], [0, 0]), ([0], [0, 0]),
        (None, [0]), ([0, 0], None), (0, [0]), ([0, 0], 0), ([0, 0], True),
        ([[0, 0]], [0]), ([0, 0], [[0]]), (InvalidText(1), [0]), ([0, 0], InvalidText(1)),
    ]
    for value in (0, 1, 7):
        for wrong in unlike_integers(value):
            found += [([wrong, value], [0]), ([value, wrong], [0]), ([value, 0], [wrong])]
    return found


def call_both_ways(test, function, **arguments):
    """Call by position and by name; the answers are equal, and what is passed stays."""
    before = repr(arguments)
    by_position = function(*arguments.values())
    by_name = function(**dict(reversed(list(arguments.items()))))
    test.assertEqual(by_position, by_name)
    test.assertIs(type(by_position), type(by_name))
    test.assertEqual(repr(arguments), before)
    return by_position


def expect(test, error, function, *args):
    """Expect exactly this error, and that what is passed stays."""
    before = repr(args)
    with test.assertRaises(error, msg=before[:200]) as caught:
        function(*args)
    test.assertIs(type(caught.exception), error, before[:200])
    test.assertEqual(repr(args), before)


def lists_in(value):
    """All lists that are or stand in a value."""
    found = [value] if type(value) is list else []
    if type(value) in (list, tuple):
        for item in value:
            found += lists_in(item)
    return found


def expect_new_lists(test, function, *args):
    """The lists that are returned are new each time: changing them changes nothing else."""
    before = copy.deepcopy(args)
    first = function(*args)
    kept = copy.deepcopy(first)
    lists = lists_in(first)
    test.assertTrue(lists)
    test.assertEqual(len({id(row) for row in lists}), len(lists))
    passed = {id(row) for row in lists_in(args)}
    test.assertFalse(passed & {id(row) for row in lists})
    for row in lists:
        row.append("changed")
    test.assertEqual(args, before)
    test.assertEqual(function(*args), kept)


class Grown:
    """A program that is grown by a fixed course, with what stands in it noted on the way."""

    def __init__(self, frame, seed, levels=4):
        self.random = random.Random(seed)
        self.frame = frame
        self.fills = []
        self.corners = {"x": [], "y": []}
        self.statements = 0
        self.levels = 0
        self.program = self.grow((0, 0), 1, levels)

    def grow(self, moved, level, levels):
        many = self.random.choice((0, 1, 2, 3)) if level > 1 else self.random.choice((0, 2, 3, 4))
        return tuple([self.statement(moved, level, levels) for _ in range(many)])

    def statement(self, moved, level, levels):
        self.statements += 1
        self.levels = max(self.levels, level)
        words = ("fill", "fill", "clip", "move", "if") if level < levels else ("fill",)
        word = self.random.choice(words)
        if word == "fill":
            made = ("fill", self.box(moved), self.random.randint(0, 9))
            self.fills.append(made)
            return made
        if word == "clip":
            return ("clip", self.box(moved), self.grow(moved, level + 1, levels))
        if word == "move":
            by = (self.random.randint(-9, 9), self.random.randint(-9, 9))
            further = (moved[0] + by[0], moved[1] + by[1])
            return ("move", *by, self.grow(further, level + 1, levels))
        axis = self.random.choice("xy")
        corners = [self.corner(axis, moved), self.corner(axis, moved)]
        programs = [self.grow(moved, level + 1, levels), self.grow(moved, level + 1, levels)]
        return ("if", axis, *corners, *programs)

    def box(self, moved):
        return tuple([self.corner(axis, moved) for axis in "xxyy"])

    def corner(self, axis, moved):
        place = "xy".index(axis)
        made = (self.random.randint(0, self.frame[place] - 1), self.random.randint(-9, 9))
        self.corners[axis].append((made[0], made[1] + moved[place]))
        return made


def random_facts(chance, frame, many):
    """A list of so many facts, by a fixed course."""
    facts = []
    for _ in range(many):
        axis = chance.choice("xy")
        most = frame["xy".index(axis)] - 1
        facts.append((axis, chance.randint(0, most), chance.randint(0, most), chance.randint(-6, 6)))
    return facts

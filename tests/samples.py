"""Values for the tests, and what several tests do with them."""

import copy
import itertools
import random

from unknowncorners.console import Console
from unknowncorners.easels import CarefulCountingEasel, CarefulEasel, CountingEasel, Easel
from unknowncorners.errors import InvalidFrame, InvalidText, PaintError
from unknowncorners.paintings import Painting
from unknowncorners.programs import reach

FRAMES = [(across, down) for across in (1, 2, 3) for down in (1, 2, 3)]
HUGE = 10 ** 31 - 1


def objects():
    """Objects of the package."""
    painted = Painting((1, 1), ("fill", box_of(0, 1, 0, 1), 1))
    return [
        Painting((1, 1)), painted, Easel((1, 1), ()), Easel((1, 1), painted.program).trying(),
        CountingEasel((1, 1), ()), CarefulEasel((1, 1), (), []), CarefulCountingEasel((1, 1), (), []),
        Console((1, 1)),
    ]


def odd_values():
    """Values that are no frame, program, setting, list of facts or pair of widths."""
    deep = ()
    for _ in range(39):
        deep = [deep]
    return [
        None, True, False, 0, 1, -1, HUGE, -HUGE, "", "x", "fill", "(1, 1)", "11",
        [0], (0,), [None], (None,), [[]], ([],), [()], ["x"], ("x",), deep, ([], [], []),
        PaintError("x"), InvalidFrame("x"), InvalidText(3), [InvalidText(3)], (PaintError("x"),),
        list(range(20000)), tuple(range(20000)), [Painting((1, 1))], (Painting((1, 1)),) * 2,
    ] + objects()


def wrong_frames():
    return odd_values() + [
        (), [], (1,), (1, 1, 1), [1, 1], [2, 2], ([1, 1],), ((1, 1),),
        (0, 1), (1, 0), (4, 1), (1, 4), (-1, 1), (1, -1), (HUGE, 1), (1, HUGE),
        (True, 1), (1, True), (False, 1), (None, 1), (1, None), ("1", 1), (1, "1"), "11",
        ((1,), 1), (1, (1,)), ([1], 1), (1, [1]), (PaintError("x"), 1), (1, PaintError("x")),
    ]


def unlike_integers(value):
    """Values that look like an integer and are none."""
    return [None, bool(value), str(value), (value,), [value], (), PaintError("x")]


def wrong_settings():
    """Values that are no setting of the frame (2, 1)."""
    found = odd_values() + [
        (), [], ([0, 0],), ([0, 0], [0], []), ([0, 0], [0], [0]), [[0, 0], [0]], [(0, 0), (0,)],
        ((0, 0), [0]), ([0, 0], (0,)), ((0, 0), (0,)), ("00", [0]), ([0, 0], "0"),
        ([0], [0]), ([0, 0, 0], [0]), ([], [0]), ([0, 0], []), ([0, 0], [0, 0]), ([0], [0, 0]),
        (None, [0]), ([0, 0], None), (0, [0]), ([0, 0], 0), ([0, 0], True),
        ([[0, 0]], [0]), ([0, 0], [[0]]), (InvalidText(1), [0]), ([0, 0], InvalidText(1)),
    ]
    for value in (0, 1, 7):
        for wrong in unlike_integers(value):
            found += [([wrong, value], [0]), ([value, wrong], [0]), ([value, 0], [wrong])]
    return found


def call_both_ways(test, function, **arguments):
    """Call by position and by name; the answers are equal, and what is passed stays."""
    before = repr(arguments)
    by_position = function(*arguments.values())
    by_name = function(**dict(reversed(list(arguments.items()))))
    test.assertEqual(by_position, by_name)
    test.assertIs(type(by_position), type(by_name))
    test.assertEqual(repr(arguments), before)
    return by_position


def expect(test, error, function, *args):
    """Expect exactly this error, and that what is passed stays."""
    before = repr(args)
    with test.assertRaises(error, msg=before[:200]) as caught:
        function(*args)
    test.assertIs(type(caught.exception), error, before[:200])
    test.assertEqual(repr(args), before)


def lists_in(value):
    """All lists that are or stand in a value."""
    found = [value] if type(value) is list else []
    if type(value) in (list, tuple):
        for item in value:
            found += lists_in(item)
    return found


def expect_new_lists(test, function, *args):
    """The lists that are returned are new each time: changing them changes nothing else."""
    before = copy.deepcopy(args)
    first = function(*args)
    kept = copy.deepcopy(first)
    lists = lists_in(first)
    test.assertTrue(lists)
    test.assertEqual(len({id(row) for row in lists}), len(lists))
    passed = {id(row) for row in lists_in(args)}
    test.assertFalse(passed & {id(row) for row in lists})
    for row in lists:
        row.append("changed")
    test.assertEqual(args, before)
    test.assertEqual(function(*args), kept)


class Grown:
    """A program that is grown by a fixed course, with what stands in it noted on the way."""

    def __init__(self, frame, seed, levels=4, most=9, full=False):
        """With full, the boxes seldom have no cells."""
        self.full = full
        self.random = random.Random(seed)
        self.frame = frame
        self.most = most
        self.all = (-most, most)
        self.fills = []
        self.corners = {"x": [], "y": []}
        self.statements = 0
        self.levels = 0
        self.program = self.grow((0, 0), 1, levels)

    def grow(self, moved, level, levels):
        many = self.random.choice((0, 1, 2, 3)) if level > 1 else self.random.choice((0, 2, 3, 4))
        return tuple([self.statement(moved, level, levels) for _ in range(many)])

    def statement(self, moved, level, levels):
        self.statements += 1
        self.levels = max(self.levels, level)
        words = ("fill", "fill", "clip", "move", "if") if level < levels else ("fill",)
        word = self.random.choice(words)
        if word == "fill":
            made = ("fill", self.box(moved), self.random.randint(0, 9))
            self.fills.append(made)
            return made
        if word == "clip":
            return ("clip", self.box(moved), self.grow(moved, level + 1, levels))
        if word == "move":
            by = (self.random.randint(*self.all), self.random.randint(*self.all))
            further = (moved[0] + by[0], moved[1] + by[1])
            return ("move", *by, self.grow(further, level + 1, levels))
        axis = self.random.choice("xy")
        corners = [self.corner(axis, moved, *self.all) for _ in range(2)]
        programs = [self.grow(moved, level + 1, levels), self.grow(moved, level + 1, levels)]
        return ("if", axis, *corners, *programs)

    def box(self, moved):
        ends = ((-self.most, 0), (1, self.most or 1)) if self.full else (self.all, self.all)
        return tuple([self.corner(axis, moved, *ends[k % 2]) for k, axis in enumerate("xxyy")])

    def corner(self, axis, moved, least, greatest):
        place = "xy".index(axis)
        made = (self.random.randint(0, self.frame[place] - 1), self.random.randint(least, greatest))
        self.corners[axis].append((made[0], made[1] + moved[place]))
        return made


def random_facts(chance, frame, many):
    """A list of so many facts, by a fixed course."""
    facts = []
    for _ in range(many):
        axis = chance.choice("xy")
        most = frame["xy".index(axis)] - 1
        facts.append((axis, chance.randint(0, most), chance.randint(0, most), chance.randint(-6, 6)))
    return facts


# The example of [7].
ONE = (("fill", ((0, 0), (1, 0), (0, 0), (0, 1)), 1),)
OTHER = (("fill", ((0, 0), (0, 2), (0, 0), (0, 1)), 1),)


def box_of(left, right, top, bottom, number=0):
    """A box of amounts; its right side stands with the unknown of this number, all others with 0."""
    return ((0, left), (number, right), (0, top), (0, bottom))


def edge_programs():
    """Names, with frames and programs that show the edges of the definitions."""
    dot, wide, huge = box_of(0, 1, 0, 1), box_of(0, 1, 0, 1, 1), box_of(-2, 2, -2, 2)
    none, turned = box_of(1, 1, 0, 1), box_of(0, 1, 2, -1)
    red, blue, bare = ("fill", dot, 1), ("fill", wide, 2), ("fill", wide, 0)
    far = ("fill", box_of(-1, 2, 0, 2), 9)
    return {
        "empty": ((2, 1), ()),
        "without cells": ((2, 1), (("fill", none, 3), ("fill", turned, 4))),
        "bare alone": ((2, 1), (bare, ("fill", dot, 0))),
        "bare over a part": ((2, 1), (far, bare)),
        "bare over all": ((2, 1), (red, far, ("fill", huge, 0))),
        "bare below": ((2, 1), (bare, red)),
        "colours 0 and 9": ((1, 1), (("fill", huge, 9), ("fill", dot, 0))),
        "the same colour again": ((2, 1), (blue, ("fill", huge, 2), red, red)),
        "the example of [7], both": ((2, 1), ONE + OTHER),
        "empty clips": ((2, 1), (("clip", wide, ()), ("clip", none, (far,)), ("clip", turned, (red,)))),
        "a clip by a greater box": ((2, 1), (("clip", huge, (red, ("fill", dot, 5))),)),
        "clips inside of one another": ((2, 2), (
            ("clip", box_of(-1, 2, -1, 2), (far, ("clip", wide, (("fill", huge, 4), red)), bare)),)),
        "a clip keeps what was outside": ((2, 1), (far, ("clip", wide, (("fill", huge, 0), red)))),
        "moves inside of one another": ((2, 1), (
            ("move", 1, -1, (red, ("move", -2, 1, (blue, ("move", 1, 0, (far,)))))), red)),
        "moves around clips and tests": ((2, 2), (
            ("move", 1, -1, (("clip", wide, (far,)),
                             ("if", "x", (0, 1), (1, 0), (red,), (("fill", huge, 3),)))),)),
        "a moved clip inside of a clip": ((2, 1), (
            ("clip", huge, (("move", 2, 1, (("clip", dot, (far, ("move", -1, 0, (far,)))),)),)),)),
        "tests of an unknown with itself": ((2, 1), (
            ("if", "x", (0, 0), (0, 1), (red,), (far,)), ("if", "x", (1, 0), (1, 0), (far,), (blue,)),
            ("if", "y", (0, 1), (0, -1), (far,), ()))),
        "a test on both sides of equal values": ((3, 1), (
            ("if", "x", (0, 0), (1, 0), (red,), ()), ("if", "x", (2, 0), (0, 0), (), (blue,)))),
        "tests inside of one another": ((2, 2), (
            ("if", "x", (1, 1), (0, 0), (("if", "y", (0, 0), (1, 0), (red,), (far,)),),
             (("if", "y", (1, -1), (0, 0), (("fill", huge, 6),), (red, bare)),)),)),
        "down alone": ((1, 3), (
            ("fill", ((0, 0), (0, 1), (0, 0), (2, 1)), 1), ("fill", ((0, 0), (0, 1), (1, 0), (2, 0)), 7))),
        "across alone": ((3, 1), (
            ("fill", ((0, 0), (2, 1), (0, 0), (0, 1)), 1), ("fill", ((1, 0), (2, 0), (0, 0), (0, 1)), 7))),
        "two by two": ((2, 2), (
            ("fill", ((0, 0), (1, 0), (0, 0), (1, 0)), 8), ("fill", ((1, 0), (0, 0), (1, 0), (0, 0)), 8))),
    }


def wide_programs():
    """Names, with frames and programs beyond the limits of use: each is answered all the same."""
    dot, far = ("fill", box_of(0, 1, 0, 1), 1), ("fill", box_of(-9, 9, -9, 9), 5)
    blue = ("fill", ((0, 9), (1, -9), (0, 0), (0, 1)), 2)
    deep = (dot,)
    for level in range(7):
        deep = (("clip", box_of(-3, 3 - level // 3, -1, 2), deep), ("move", 1, 0, deep[-1:]))
    return {
        "amounts of 9": ((2, 1), (far, ("fill", ((1, -9), (1, 9), (0, 0), (0, 1)), 3), blue)),
        "moves of 9": ((2, 1), (("move", 9, -9, (dot, ("move", -9, 9, (blue, dot)),
                                                 ("move", 9, 0, (far,)))), blue)),
        "many levels": ((2, 1), deep),
        "many statements": ((2, 1), tuple(
            ("fill", box_of(-(k // 7), k // 3 - 1, k // 5 - 1, k // 9 + 1, k // 2 - k // 4 * 2), k // 2)
            for k in range(15))),
        "tests far apart": ((1, 2), (("if", "y", (0, 9), (1, -3), (dot,), (("move", 3, 9, (
            ("if", "y", (1, 0), (0, 9), (far,), (dot,)),)),)),)),
    }


def cells_of(box, setting, moved):
    """All cells of a box that is moved so."""
    ends = [setting[place // 2][number] + amount + moved[place // 2]
            for place, (number, amount) in enumerate(box)]
    return list(itertools.product(range(ends[0], ends[1]), range(ends[2], ends[3])))


def paint(program, setting, cells, moved=(0, 0), first=0):
    """Do a program statement by statement, into a dict from cells to tuples (colour, fill).

    Returns the number behind that of its last fill; first is that of its first one.
    """
    for statement in program:
        word = statement[0]
        if word == "fill":
            for cell in cells_of(statement[1], setting, moved):
                cells[cell] = (statement[2], first)
            first += 1
        elif word == "clip":
            inside = dict(cells)
            first = paint(statement[2], setting, inside, moved, first)
            for cell in cells_of(statement[1], setting, moved):
                if cell in inside:
                    cells[cell] = inside[cell]
        elif word == "move":
            further = (moved[0] + statement[1], moved[1] + statement[2])
            first = paint(statement[3], setting, cells, further, first)
        else:
            place = "xy".index(statement[1])
            less, greater = [setting[place][number] + amount + moved[place]
                             for number, amount in statement[2:4]]
            for taken, inside in zip((less < greater, less >= greater), statement[4:]):
                first = paint(inside, setting, cells if taken else {}, moved, first)
    return first


def count_fills(program):
    """How many fills stand in a program."""
    return paint(program, ([0] * 3, [0] * 3), {})


def tops(program, setting):
    """The dict from all cells that some fill paints to the number of the last such fill."""
    cells = {}
    paint(program, setting, cells)
    return {cell: fill for cell, (colour, fill) in cells.items()}


def colours(program, setting):
    """The dict from all cells that are not bare to their colours."""
    cells = {}
    paint(program, setting, cells)
    return {cell: colour for cell, (colour, fill) in cells.items() if colour}


def framed_cells(cells):
    """The picture in which these cells have these colours, by going through all cells."""
    if not cells:
        return [], [], []
    ends = [range(min(cell[k] for cell in cells), max(cell[k] for cell in cells) + 2)
            for k in (0, 1)]
    columns = [x for x in ends[0]
               if any(cells.get((x - 1, y), 0) != cells.get((x, y), 0) for y in ends[1])]
    rows = [y for y in ends[1]
            if any(cells.get((x, y - 1), 0) != cells.get((x, y), 0) for x in ends[0])]
    return columns, rows, [[cells.get((x, y), 0) for x in columns[:-1]] for y in rows[:-1]]


def plain_settings(frame, most):
    """All plain settings with values up to most across and most down, ascending."""
    rows = [[list(row) for row in itertools.product(range(last + 1), repeat=many) if min(row) == 0]
            for many, last in zip(frame, most)]
    return [(list(across), list(down)) for across in rows[0] for down in rows[1]]


def beyond_close(frame, programs, least=0):
    """All plain settings of values somewhat beyond those of the ones that are close.

    They are close for the reaches of all these programs together, or for the least width.
    """
    widths = [max(width, least) for width in reach(frame, sum(programs, ()))]
    return plain_settings(frame, [(many - 1) * (width + 1) + 1 for many, width in zip(frame, widths)])


def small_programs(count, most_reach=4):
    """So many frames and programs, by a fixed course, which all plain settings can be gone through for."""
    frames = [frame for frame in FRAMES if sum(frame) <= 4]
    for seed in range(count):
        frame = frames[seed % len(frames)]
        program = Grown(frame, seed, 1 + seed // 3 % 3, (1, 1, 2)[seed // 7 % 3], seed // 2 % 3 > 0).program
        if max(reach(frame, program)) <= most_reach:
            yield frame, program

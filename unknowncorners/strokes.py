"""Strokes: what the fills of programs paint, and how they lie over one another.

A stroke stands for one fill. It is a tuple (across, down, colour) with its bounds on each axis,
tuples (lows, highs, tests) of corners, all moves added: those of its own box, and those of all clips
and tests around it. It paints a cell that is behind all lows and ahead of all highs, if in each test
the first corner is less than the second one.

A stack is an integer that tells which strokes lie over a place: its bit k is 1 if stroke k does.
Corners and tests are about one axis each. So columns and rows have stacks of their own, and the
stack of a cell is what those of its column and of its row have in common.

A cover is, for one axis, the list of tuples (edge, stack), ascending: from an edge to the next one
lie the strokes of its stack, and behind the last one none, as ahead of the first one.

A lay is, for one axis, a tuple (values, cover) of values of the unknowns and the cover they give.
"""

from unknowncorners.programs import corners_in, moved_further, on_axis, reach_on
from unknowncorners.settings import MOST_LEAST, close_rows, keeps_fact

UNBOUNDED = ((), (), ())


def moved_corner(corner, by):
    """Move a corner by an integer."""
    return corner[0], corner[1] + by


def narrowed(bounds, low, high, by):
    """Add two sides of a box, moved by an integer, to the bounds on an axis."""
    lows, highs, tests = bounds
    return (*lows, moved_corner(low, by)), (*highs, moved_corner(high, by)), tests


def boxed(around, box, moved):
    """Add a box that is moved so to the bounds across and down."""
    left, right, top, bottom = box
    return (narrowed(around[0], left, right, moved[0]),
            narrowed(around[1], top, bottom, moved[1]))


def tested(around, axis, less, greater):
    """Add to the bounds across and down that one corner on the axis is less than another one."""
    lows, highs, tests = on_axis(around, axis)
    bounds = (lows, highs, (*tests, (less, greater)))
    return (bounds, around[1]) if axis == "x" else (around[0], bounds)


def parts_inside(statement, moved, around):
    """List the programs directly inside of a statement, each with the bounds that hold in it."""
    word = statement[0]
    if word == "clip":
        return [(statement[2], boxed(around, statement[1], moved))]
    if word == "move":
        return [(statement[3], around)]
    if word == "if":
        _, axis, first, second, program, otherwise = statement
        # Moves do not matter here: they move both corners as far. As the values are integers, the
        # first one is not less exactly if the second one is less than the first one plus 1.
        return [(program, tested(around, axis, first, second)),
                (otherwise, tested(around, axis, second, moved_corner(first, 1)))]
    return []


def strokes_in(program, moved, around):
    """List the strokes of a program that is moved so and has these bounds around it."""
    found = []
    for statement in program:
        if statement[0] == "fill":
            across, down = boxed(around, statement[1], moved)
            found.append((across, down, statement[2]))
        for inside, bounds in parts_inside(statement, moved, around):
            found.extend(strokes_in(inside, moved_further(moved, statement), bounds))
    return found


def strokes_of(program):
    """List the strokes of a program, as its fills are numbered."""
    return strokes_in(program, (0, 0), (UNBOUNDED, UNBOUNDED))


def colours_of(strokes):
    """List the colours of strokes."""
    return [colour for across, down, colour in strokes]


def holds(test, values):
    """Tell whether the first corner of a test is less than the second one."""
    (first, more), (second, further) = test
    return values[first] + more < values[second] + further


def span_of(bounds, values):
    """Tell from where to where bounds reach on their axis."""
    lows, highs, tests = bounds
    if not all([holds(test, values) for test in tests]):
        return 0, 0
    return (max([int(values[number] + amount) for number, amount in lows]),
            min([int(values[number] + amount) for number, amount in highs]))


def spans_on(axis, strokes, values):
    """List from where to where each stroke reaches on an axis."""
    return [span_of(on_axis(stroke, axis), values) for stroke in strokes]


def stack_at(spans, place):
    """Tell which spans lie over a place on their axis."""
    return sum([1 << k for k, (low, high) in enumerate(spans) if low <= place < high])


def cover_of(spans):
    """Make the cover of spans on an axis."""
    edges = sorted(set([int(edge) for low, high in spans if low < high for edge in (low, high)]))
    return [(edge, stack_at(spans, edge)) for edge in edges]


def top_stroke(stack):
    """Tell the number of the uppermost stroke of a stack, -1 if there is none."""
    return stack.bit_length() - 1


def top_colour(stack, colours):
    """Tell the colour of the uppermost stroke of a stack, 0 if there is none."""
    return colours[top_stroke(stack)] if stack > 0 else 0


def first_strokes(many):
    """Make the stack of the first strokes, so many of them."""
    return (1 << many) - 1


def both_colours(stack, colours, others):
    """Tell the colours under a stack of strokes and others behind them, each for themselves."""
    many = len(colours)
    return top_colour(stack & first_strokes(many), colours), top_colour(stack >> many, others)


def widths_of(programs, facts):
    """List for which widths across and down settings have to be close when these are looked at."""
    corners = [corner for program in programs for corner in corners_in(program, (0, 0))]
    least = MOST_LEAST if len(facts) > 0 else 0
    return [max(int(reach_on(axis, corners)), least) for axis in "xy"]


def lays_of(frame, strokes, widths):
    """List the lays across, and those down, of all settings that are plain and close for widths."""
    across, down = [[(values, cover_of(spans_on(axis, strokes, values)))
                     for values in close_rows(on_axis(frame, axis), width)]
                    for axis, width in zip("xy", widths)]
    return across, down


def keeping(axis, lays, facts):
    """List the lays of an axis that keep the facts which are about it."""
    mine = [fact for fact in facts if fact[0] == axis]
    return [(values, cover) for values, cover in lays
            if all([keeps_fact(fact, values) for fact in mine])]


def stacks_on(lays):
    """List the stacks of the lays of an axis, each once."""
    return list({stack: True for values, cover in lays for edge, stack in cover})


def stacks_of(across, down):
    """List ascending the stacks that the edges of all lays give to cells, each once."""
    high = stacks_on(down)
    return sorted(set([int(one & other) for one in stacks_on(across) for other in high]))


def meet(some, others, wanted):
    """Tell whether some stacks have with others a stack in common that is among the wanted ones."""
    return any([(one & other) in wanted for one in some for other in others])


def least_below(values, columns, down, wanted):
    """Find the least setting with these values across, and the least cell there, with a wanted stack."""
    for others, rows in down:
        for x, wide in columns:
            for y, high in rows:
                if (wide & high) in wanted:
                    return (values, others), (x, y)
    return None


def least_place(across, down, wanted):
    """Find the least setting, and the least cell there, with a wanted stack; None if there is none."""
    every = stacks_on(down)
    for values, columns in across:
        if meet([stack for x, stack in columns], every, wanted):
            return least_below(values, columns, down, wanted)
    return None

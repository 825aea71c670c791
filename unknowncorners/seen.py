"""What of a program is ever seen, over all settings, and which of its statements matter."""

from unknowncorners.alike import index_lists, least_of
from unknowncorners.painting import differs, painted
from unknowncorners.programs import MOST_COLOUR, fills_in, need_index, need_program
from unknowncorners.strokes import (
    colours_of, first_strokes, lays_of, least_place, stacks_of, stacks_on, strokes_of, top_colour,
    top_stroke, widths_of)


def lays_in(frame, program):
    """List the lays across, and those down, that decide about one program."""
    return lays_of(frame, strokes_of(program), widths_of([program], []))


def stacks_in(frame, program):
    """List the stacks that decide about one program."""
    across, down = lays_in(frame, program)
    return stacks_of(across, down)


def seen(frame, program):
    """List the numbers of the fills that are seen for some setting."""
    need_program(frame, program)
    tops = {top_stroke(stack): True for stack in stacks_in(frame, program)}
    return [k for k in range(len(fills_in(program))) if k in tops]


def seen_at(frame, program, index):
    """Find the least setting, and the least cell there, at which a fill is seen."""
    need_program(frame, program)
    need_index(index, len(fills_in(program)))
    across, down = lays_in(frame, program)
    wanted = {stack: True for stack in stacks_of(across, down) if top_stroke(stack) == index}
    return least_place(across, down, wanted)


def steps_on(lays):
    """List the tuples of stacks that are side by side on an axis, in all lays, each once."""
    covers = [[0] + [stack for edge, stack in cover] for values, cover in lays]
    return list({step: True for stacks in covers for step in zip(stacks, stacks[1:])})


def sides_on(lays, others, colours):
    """List the tuples of colours side by side along an axis, where others are the lays across it."""
    return [(top_colour(before & stack, colours), top_colour(behind & stack, colours))
            for before, behind in steps_on(lays) for stack in stacks_on(others)]


def neighbours(frame, program):
    """List ascending the pairs of colours that come to lie side by side or one above the other."""
    need_program(frame, program)
    across, down = lays_in(frame, program)
    colours = colours_of(strokes_of(program))
    sides = sides_on(across, down, colours) + sides_on(down, across, colours)
    met = {side: True for side in sides}
    return [(low, high) for low in range(MOST_COLOUR) for high in range(low + 1, MOST_COLOUR + 1)
            if (low, high) in met or (high, low) in met]


def covers_of(lays):
    """List the covers of lays, one of those with the same stacks."""
    found = {tuple([stack for edge, stack in cover]): cover for values, cover in lays}
    return list(found.values())


def word_of(look):
    """Write a look so that such words are in the order of the looks."""
    return "".join(["".join([str(colour) for colour in line]) + " " for line in look])


def looks(frame, program):
    """List ascending all looks that a program has."""
    need_program(frame, program)
    across, down = lays_in(frame, program)
    colours = colours_of(strokes_of(program))
    found = {}
    for columns in covers_of(across):
        for rows in covers_of(down):
            look = painted(columns, rows, colours)[2]
            found[word_of(look)] = look
    return [found[word] for word in sorted([str(word) for word in found])]


def raised(corners, number):
    """Add 1 to the amounts of the corners of an unknown."""
    return tuple([(at, amount + 1 if at == number else amount) for at, amount in corners])


def raised_bounds(bounds, number):
    """Add 1 to the amounts of the corners of an unknown in bounds on its axis."""
    lows, highs, tests = bounds
    return raised(lows, number), raised(highs, number), tuple([raised(test, number) for test in tests])


def raised_stroke(stroke, axis, number):
    """Add 1 to the amounts of the corners of an unknown in a stroke."""
    across, down, colour = stroke
    if axis == "x":
        return raised_bounds(across, number), down, colour
    return across, raised_bounds(down, number), colour


def is_idle(frame, program, axis, number):
    """Tell whether another value of an unknown alone never changes the picture."""
    strokes = strokes_of(program)
    others = [raised_stroke(stroke, axis, number) for stroke in strokes]
    # Beside amounts that are greater by 1, the reaches are greater by 1 at most.
    across, down = lays_of(frame, strokes + others, [width + 1 for width in widths_of([program], [])])
    colours = colours_of(strokes)
    return not any([differs(stack, colours) for stack in stacks_of(across, down)])


def idle(frame, program):
    """List the unknowns across, and those down, that do not matter."""
    need_program(frame, program)
    return ([k for k in range(frame[0]) if is_idle(frame, program, "x", k)],
            [k for k in range(frame[1]) if is_idle(frame, program, "y", k)])


def parts_of(program):
    """List for each statement of a program the stack of the strokes in it."""
    ends = [len(fills_in(program[:k])) for k in range(len(program) + 1)]
    return [first_strokes(end) - first_strokes(begin) for begin, end in zip(ends, ends[1:])]


def shown(stack, colours, parts):
    """Tell the colour under a stack if these parts of it are painted one after another."""
    for part in reversed(list(parts)):
        if stack & part > 0:
            return top_colour(stack & part, colours)
    return 0


def paint_all(stacks, colours, parts):
    """Tell whether parts, painted one after another, always show what all strokes show."""
    return all([shown(stack, colours, parts) == top_colour(stack, colours) for stack in stacks])


def same_by(frame, program, orders):
    """Tell for each list of indexes of statements whether they alone, so, always paint the same."""
    stacks = stacks_in(frame, program)
    colours = colours_of(strokes_of(program))
    parts = parts_of(program)
    return [paint_all(stacks, colours, [parts[k] for k in order]) for order in orders]


def exchangeable(frame, program):
    """List the statements that can be exchanged with the next one without a change of the picture."""
    need_program(frame, program)
    many = len(program)
    orders = [list(range(k)) + [k + 1, k] + list(range(k + 2, many)) for k in range(many - 1)]
    return [k for k, same in enumerate(same_by(frame, program, orders)) if same]


def needless(frame, program):
    """List the statements that can be left out, each alone, without a change of the picture."""
    need_program(frame, program)
    many = len(program)
    orders = [[at for at in range(many) if at != k] for k in range(many)]
    return [k for k, same in enumerate(same_by(frame, program, orders)) if same]


def least_parts(frame, program):
    """List the least lists of indexes of statements that alone paint the same for all settings."""
    need_program(frame, program)
    orders = index_lists(len(program))
    return least_of([order for order, same in zip(orders, same_by(frame, program, orders)) if same])

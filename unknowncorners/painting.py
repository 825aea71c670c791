"""Pictures that programs paint for told settings."""

from unknowncorners.errors import InvalidCell, InvalidColour
from unknowncorners.programs import MOST_COLOUR, is_tuple_of, is_within, need_program
from unknowncorners.settings import need_setting
from unknowncorners.strokes import (
    both_colours, colours_of, cover_of, spans_on, stack_at, strokes_of, top_colour)


def need_cell(cell):
    """Raise InvalidCell unless the value is a cell."""
    if not (is_tuple_of(cell, 2) and all([type(item) is int for item in cell])):
        raise InvalidCell("a cell is a tuple of two integers")


def unlike_before(lines):
    """List the numbers of the lines of a grid that are unlike the ones ahead of them."""
    # The last line is bare, as is all that is ahead of the first one: lines[-1] stands for that.
    return [k for k in range(len(lines)) if lines[k] != lines[k - 1]]


def framed(columns, rows, grid):
    """Make the picture in which grid[j][i] is the colour behind the edges of columns[i] and rows[j]."""
    across = unlike_before(list(zip(*grid)))
    down = unlike_before(grid)
    return ([columns[i][0] for i in across], [rows[j][0] for j in down],
            [[grid[j][i] for i in across[:-1]] for j in down[:-1]])


def painted(columns, rows, colours):
    """Make the picture of strokes with these colours from their covers across and down."""
    return framed(columns, rows, [[top_colour(wide & high, colours) for x, wide in columns]
                                  for y, high in rows])


def picture_of(program, setting):
    """Make the picture of what is known to be a program and a setting."""
    strokes = strokes_of(program)
    columns, rows = [cover_of(spans_on(axis, strokes, values)) for axis, values in zip("xy", setting)]
    return painted(columns, rows, colours_of(strokes))


def differs(stack, colours):
    """Tell, as 0 or 1, whether strokes show another colour than the same ones behind them."""
    before, behind = both_colours(stack, colours, colours)
    return int(before != behind)


def repaint_of(program, setting, later):
    """Make the picture of the cells that differ for what is known to be two settings."""
    strokes = strokes_of(program)
    colours = colours_of(strokes)
    columns, rows = [cover_of(spans_on(axis, strokes, values) + spans_on(axis, strokes, others))
                     for axis, values, others in zip("xy", setting, later)]
    return framed(columns, rows, [[differs(wide & high, colours) for x, wide in columns]
                                  for y, high in rows])


def area_in(columns, rows, colours, colour):
    """Count the cells of a picture that have a colour."""
    return sum([(columns[i + 1] - columns[i]) * (rows[j + 1] - rows[j])
                for j, line in enumerate(colours) for i, here in enumerate(line) if here == colour])


def colour_at(frame, program, setting, cell):
    """Tell the colour of a cell for a setting."""
    need_program(frame, program)
    need_setting(frame, setting)
    need_cell(cell)
    strokes = strokes_of(program)
    wide, high = [stack_at(spans_on(axis, strokes, values), place)
                  for axis, values, place in zip("xy", setting, cell)]
    return top_colour(wide & high, colours_of(strokes))


def picture(frame, program, setting):
    """Give the picture for a setting: the tuple (columns, rows, colours)."""
    need_program(frame, program)
    need_setting(frame, setting)
    return picture_of(program, setting)


def area(frame, program, setting, colour):
    """Tell how many cells have a colour for a setting."""
    need_program(frame, program)
    need_setting(frame, setting)
    if not is_within(colour, 1, MOST_COLOUR):
        raise InvalidColour("an area is that of a colour from 1 to 9")
    columns, rows, colours = picture_of(program, setting)
    return area_in(columns, rows, colours, colour)


def repaint(frame, program, setting, later):
    """Give the picture, in colour 1, of the cells whose colours differ between two settings."""
    need_program(frame, program)
    need_setting(frame, setting)
    need_setting(frame, later)
    return repaint_of(program, setting, later)


def look(frame, program, setting):
    """Give the colours of the picture for a setting."""
    need_program(frame, program)
    need_setting(frame, setting)
    columns, rows, colours = picture_of(program, setting)
    return colours

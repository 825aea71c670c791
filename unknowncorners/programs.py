"""Frames and programs: which values are such, and what stands in a program."""

from unknowncorners.errors import InvalidFrame, InvalidIndex, InvalidProgram, InvalidStatement

MOST_UNKNOWNS = 3
MOST_AMOUNT = 9
MOST_COLOUR = 9


def is_within(value, least, most):
    """Tell whether any value is an integer from least to most."""
    return type(value) is int and least <= value <= most


def is_tuple_of(value, many):
    """Tell whether any value is a tuple with so many items."""
    return type(value) is tuple and len(value) == many


def is_axis(value):
    """Tell whether any value is an axis."""
    return type(value) is str and value in ("x", "y")


def is_frame(value):
    """Tell whether any value is a frame."""
    return is_tuple_of(value, 2) and all([is_within(item, 1, MOST_UNKNOWNS) for item in value])


def need_frame(frame):
    """Raise InvalidFrame unless the value is a frame."""
    if not is_frame(frame):
        raise InvalidFrame("a frame is a tuple of two integers from 1 to 3")


def on_axis(pair, axis):
    """Give what belongs to an axis of a pair that is told across and down."""
    return pair[0] if axis == "x" else pair[1]


def is_amount(value):
    """Tell whether any value can be an amount of a corner, or a move."""
    return is_within(value, -MOST_AMOUNT, MOST_AMOUNT)


def is_colour(value):
    """Tell whether any value is a colour."""
    return is_within(value, 0, MOST_COLOUR)


def is_corner(frame, axis, value):
    """Tell whether any value is a corner on the axis."""
    if not is_tuple_of(value, 2):
        return False
    number, amount = value
    return is_within(number, 0, on_axis(frame, axis) - 1) and is_amount(amount)


def is_box(frame, value):
    """Tell whether any value is a box of the frame."""
    if not is_tuple_of(value, 4):
        return False
    return all([is_corner(frame, axis, corner) for axis, corner in zip("xxyy", value)])


def is_test(frame, axis, first, second):
    """Tell whether any values are an axis and two corners on it."""
    return is_axis(axis) and is_corner(frame, axis, first) and is_corner(frame, axis, second)


def is_statement(frame, value):
    """Tell whether any value is a statement of the frame."""
    if type(value) is not tuple or len(value) == 0:
        return False
    word, *parts = value
    if type(word) is not str:
        return False
    if word == "fill":
        return len(parts) == 2 and is_box(frame, parts[0]) and is_colour(parts[1])
    if word == "clip":
        return len(parts) == 2 and is_box(frame, parts[0]) and is_program(frame, parts[1])
    if word == "move":
        return (len(parts) == 3 and is_amount(parts[0]) and is_amount(parts[1])
                and is_program(frame, parts[2]))
    return (word == "if" and len(parts) == 5 and is_test(frame, parts[0], parts[1], parts[2])
            and is_program(frame, parts[3]) and is_program(frame, parts[4]))


def is_program(frame, value):
    """Tell whether any value is a program of the frame."""
    need_frame(frame)
    return type(value) is tuple and all([is_statement(frame, item) for item in value])


def need_program(frame, program):
    """Raise InvalidFrame or InvalidProgram unless the value is a program of a frame."""
    if not is_program(frame, program):
        raise InvalidProgram("a program is a tuple of statements of the frame")


def need_statement(frame, statement):
    """Raise InvalidStatement unless the value is a statement of the frame."""
    if not is_statement(frame, statement):
        raise InvalidStatement("this is no statement of the frame")


def need_index(index, many):
    """Raise InvalidIndex unless the value is an index of so many things."""
    if not is_within(index, 0, many - 1):
        raise InvalidIndex("an index is an integer from 0 on, less than the number of what is numbered")


def programs_inside(statement):
    """List the programs that stand directly inside of a statement, in their sequence."""
    word = statement[0]
    if word == "fill":
        return []
    if word == "if":
        return [statement[4], statement[5]]
    return [statement[-1]]


def count_in(program):
    """Count the statements and the levels of what is known to be a program."""
    statements = 0
    levels = 0
    for statement in program:
        statements = statements + 1
        levels = max(1, levels)
        for inside in programs_inside(statement):
            more, deeper = count_in(inside)
            statements = statements + more
            levels = max(int(deeper) + 1, levels)
    return statements, levels


def count_statements(frame, program):
    """Tell how many statements there are in all, and how many levels deep they stand."""
    need_program(frame, program)
    return count_in(program)


def fills_in(program):
    """List the fills of what is known to be a program, in their sequence."""
    found = []
    for statement in program:
        if statement[0] == "fill":
            found.append(statement)
        for inside in programs_inside(statement):
            found.extend(fills_in(inside))
    return found


def fills(frame, program):
    """List the fills of a program as they stand in it, in their sequence."""
    need_program(frame, program)
    return fills_in(program)


def own_corners(statement):
    """List the corners of a statement itself as tuples (axis, corner)."""
    word = statement[0]
    if word == "move":
        return []
    if word == "if":
        return [(statement[1], statement[2]), (statement[1], statement[3])]
    return list(zip("xxyy", statement[1]))


def moved_further(moved, statement):
    """Add to what a statement is moved by across and down what moves the programs inside of it."""
    if statement[0] != "move":
        return moved
    return moved[0] + statement[1], moved[1] + statement[2]


def corners_in(program, moved):
    """List all corners of a program that is moved so, as tuples (axis, number, amount)."""
    found = []
    for statement in program:
        for axis, (number, amount) in own_corners(statement):
            found.append((axis, number, amount + on_axis(moved, axis)))
        for inside in programs_inside(statement):
            found.extend(corners_in(inside, moved_further(moved, statement)))
    return found


def reach_on(axis, corners):
    """Reckon the reach on an axis from tuples (axis, number, amount)."""
    amounts = sorted([int(amount) for other, number, amount in corners if other == axis])
    if len(amounts) == 0:
        return 0
    return amounts[-1] - amounts[0]


def reach(frame, program):
    """Tell the reaches of a program across and down."""
    need_program(frame, program)
    corners = corners_in(program, (0, 0))
    return reach_on("x", corners), reach_on("y", corners)


def amounts_of(axis, number, corners):
    """List ascending the amounts that stand with an unknown, each once."""
    return sorted(set([int(amount) for other, at, amount in corners
                       if other == axis and at == number]))


def corners_on(frame, axis, corners):
    """List ascending, each once, the corners (number, amount) of an axis."""
    return [(number, amount) for number in range(on_axis(frame, axis))
            for amount in amounts_of(axis, number, corners)]


def corners_of(frame, program):
    """List ascending all corners across and down of a program, moved, each once."""
    need_program(frame, program)
    corners = corners_in(program, (0, 0))
    return corners_on(frame, "x", corners), corners_on(frame, "y", corners)

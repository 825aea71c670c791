"""Whether two programs paint alike for all settings, and what parts them or makes them alike."""

from unknowncorners.errors import InvalidFacts
from unknowncorners.programs import need_program
from unknowncorners.settings import find_ring, is_facts, need_facts
from unknowncorners.strokes import (
    both_colours, colours_of, keeping, lays_of, least_place, meet, stacks_of, stacks_on, strokes_of,
    widths_of)


def need_two_programs(frame, one, other):
    """Raise InvalidFrame or InvalidProgram unless both values are programs of a frame."""
    need_program(frame, one)
    need_program(frame, other)


def need_facts_or_none(frame, facts):
    """Raise InvalidFacts unless the value is a list of facts or the empty tuple."""
    if not (is_facts(frame, facts) or (type(facts) is tuple and len(facts) == 0)):
        raise InvalidFacts("facts are a list of at most 6 facts of the frame, or ()")


def lays_for(frame, one, other, facts):
    """List the lays across, and those down, that decide about two programs under facts."""
    return lays_of(frame, strokes_of(one) + strokes_of(other), widths_of([one, other], facts))


def lays_keeping(frame, one, other, facts):
    """List those of the lays that decide about two programs which keep the facts."""
    across, down = lays_for(frame, one, other, facts)
    return keeping("x", across, facts), keeping("y", down, facts)


def both_shown(one, other, across, down):
    """List for each stack of two programs the tuple (stack, colour in the one, in the other)."""
    mine = colours_of(strokes_of(one))
    others = colours_of(strokes_of(other))
    return [(stack, *both_colours(stack, mine, others)) for stack in stacks_of(across, down)]


def stacks_apart(one, other, across, down):
    """Make the table of the stacks for which two programs show unlike colours."""
    return {stack: True for stack, mine, others in both_shown(one, other, across, down)
            if mine != others}


def alike(frame, one, other, facts=()):
    """Tell whether two programs paint the same for all settings that keep the facts."""
    need_two_programs(frame, one, other)
    need_facts_or_none(frame, facts)
    across, down = lays_keeping(frame, one, other, facts)
    return len(stacks_apart(one, other, across, down)) == 0


def parting(frame, one, other, facts=()):
    """Find the least setting that keeps the facts, and the least cell there, that part two programs."""
    need_two_programs(frame, one, other)
    need_facts_or_none(frame, facts)
    across, down = lays_keeping(frame, one, other, facts)
    return least_place(across, down, stacks_apart(one, other, across, down))


def under(frame, one, other):
    """Tell whether each cell that is not bare in the one always has the same colour in the other."""
    need_two_programs(frame, one, other)
    across, down = lays_for(frame, one, other, [])
    return all([mine in (0, others) for stack, mine, others in both_shown(one, other, across, down)])


def index_lists(many):
    """List all ascending lists of indexes below a number, shorter ones first, then ascending."""
    lists = [[]]
    found = [[]]
    for _ in range(many):
        lists = [[*row, k] for row in lists for k in range(many) if len(row) == 0 or row[-1] < k]
        found = found + lists
    return found


def holds_one(row, lists):
    """Tell whether a list has all items of one of these lists."""
    return any([all([item in row for item in part]) for part in lists])


def least_of(lists):
    """Leave out of lists of indexes, shorter ones first, those that hold another one of them."""
    found = []
    for row in lists:
        if not holds_one(row, found):
            found.append(row)
    return found


def part_never(across, down, apart, facts):
    """Tell whether facts are possible together and no lay that keeps them has a parting stack."""
    return find_ring(facts) is None and not meet(
        stacks_on(keeping("x", across, facts)), stacks_on(keeping("y", down, facts)), apart)


def least_facts(frame, one, other, wishes):
    """List the least lists of wishes, as indexes, that make two programs alike."""
    need_two_programs(frame, one, other)
    need_facts(frame, wishes)
    across, down = lays_for(frame, one, other, wishes)
    apart = stacks_apart(one, other, across, down)
    return least_of([row for row in index_lists(len(wishes))
                     if part_never(across, down, apart, [wishes[k] for k in row])])

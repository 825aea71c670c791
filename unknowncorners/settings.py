"""Settings of the unknown numbers, and facts about them."""

from unknowncorners.errors import Impossible, InvalidFacts, InvalidSetting, InvalidWidths
from unknowncorners.programs import MOST_UNKNOWNS, is_axis, is_tuple_of, is_within, need_frame, on_axis

MOST_WIDTH = 40
MOST_LEAST = 6
MOST_FACTS = 6


def is_row(value, many):
    """Tell whether any value is a list of so many integers."""
    return (type(value) is list and len(value) == many
            and all([type(item) is int for item in value]))


def is_setting(frame, value):
    """Tell whether any value is a setting of the frame."""
    need_frame(frame)
    return is_tuple_of(value, 2) and is_row(value[0], frame[0]) and is_row(value[1], frame[1])


def need_setting(frame, setting):
    """Raise InvalidFrame or InvalidSetting unless the value is a setting of a frame."""
    if not is_setting(frame, setting):
        raise InvalidSetting("a setting is a tuple of two lists of integers, one for each unknown")


def is_fact(frame, value):
    """Tell whether any value is a fact of the frame."""
    if not is_tuple_of(value, 4):
        return False
    axis, first, second, least = value
    if not is_axis(axis):
        return False
    last = on_axis(frame, axis) - 1
    return (is_within(first, 0, last) and is_within(second, 0, last)
            and is_within(least, -MOST_LEAST, MOST_LEAST))


def is_facts(frame, value):
    """Tell whether any value is a list of facts of the frame."""
    need_frame(frame)
    return (type(value) is list and len(value) <= MOST_FACTS
            and all([is_fact(frame, item) for item in value]))


def need_facts(frame, facts):
    """Raise InvalidFrame or InvalidFacts unless the value is a list of facts of a frame."""
    if not is_facts(frame, facts):
        raise InvalidFacts("facts are a list of at most 6 facts of the frame")


def need_widths(widths):
    """Raise InvalidWidths unless the value is a pair of widths."""
    if not (is_tuple_of(widths, 2) and all([is_within(item, 0, MOST_WIDTH) for item in widths])):
        raise InvalidWidths("widths are a tuple of two integers from 0 to 40")


def plain_row(values):
    """Change values by one integer so that the least one is 0."""
    least = min([int(item) for item in values])
    return [value - least for value in values]


def plain(frame, setting):
    """Change the values on each axis by one integer so that the setting is plain."""
    need_setting(frame, setting)
    across, down = setting
    return plain_row(across), plain_row(down)


def closed_row(values, width):
    """Close the values of one axis for a width."""
    ordered = sorted([int(item) for item in values])
    places = {ordered[0]: 0}
    for before, behind in zip(ordered, ordered[1:]):
        places[behind] = places[before] + min(int(behind - before), width + 1)
    return [places[value] for value in values]


def closed(frame, setting, widths):
    """Close a setting for widths."""
    need_setting(frame, setting)
    need_widths(widths)
    across, down = setting
    wide, high = widths
    return closed_row(across, wide), closed_row(down, high)


def values_behind(row, many, most):
    """List the values up to the most one that can follow on a row, if so many are to be plain."""
    if len(row) == many - 1 and 0 not in row:
        return [0]
    return list(range(most + 1))


def close_rows(many, width):
    """List ascending the plain and close lists of so many values."""
    rows = [[]]
    most = (many - 1) * (width + 1)
    for _ in range(many):
        rows = [[*row, value] for row in rows for value in values_behind(row, many, most)]
    # Closing leaves alone exactly what is plain and close.
    return [row for row in rows if closed_row(row, width) == row]


def close_settings(frame, widths):
    """List ascending all plain settings that are close for widths."""
    need_frame(frame)
    need_widths(widths)
    across = close_rows(frame[0], widths[0])
    down = close_rows(frame[1], widths[1])
    return [(list(row), list(column)) for row in across for column in down]


def keeps_fact(fact, values):
    """Tell whether the values of its axis keep one fact."""
    _, first, second, least = fact
    return values[first] - values[second] >= least


def keeps_all(facts, setting):
    """Tell whether what is known to be a setting keeps all facts."""
    return all([keeps_fact(fact, on_axis(setting, fact[0])) for fact in facts])


def keeps(frame, facts, setting):
    """Tell whether a setting keeps all facts."""
    need_facts(frame, facts)
    need_setting(frame, setting)
    return keeps_all(facts, setting)


def follows(fact, before):
    """Tell whether a fact can stand behind another one in a ring."""
    return fact[0] == before[0] and fact[1] == before[2]


def is_ring(facts, chain):
    """Tell whether a chain of facts ends where it begins, with leasts above 0 in all."""
    return (follows(facts[chain[0]], facts[chain[-1]])
            and sum([facts[k][3] for k in chain]) > 0)


def find_ring(facts):
    """Find indexes of facts that contradict one another in a ring; None if there are none."""
    chains = [[k] for k in range(len(facts))]
    # A ring that comes by an unknown twice parts into two rings, one of them above 0 as well:
    # it is enough to look at rings with as many facts as there are unknowns on an axis.
    for _ in range(MOST_UNKNOWNS):
        for chain in chains:
            if is_ring(facts, chain):
                return chain
        chains = [[*chain, k] for chain in chains for k in range(len(facts))
                  if k not in chain and follows(facts[k], facts[chain[-1]])]
    return None


def possible(frame, facts):
    """Tell whether some setting keeps all facts."""
    need_facts(frame, facts)
    return find_ring(facts) is None


def least_row(many, facts):
    """Find the least values that keep facts of one axis which are possible."""
    values = [0] * many
    # As no ring adds up to more than 0, a value rests on no more facts than there are others.
    for _ in range(many - 1):
        for axis, first, second, least in facts:
            values[first] = max(int(values[second] + least), values[first])
    return values


def least_setting(frame, facts):
    """Find the least plain setting that keeps all facts."""
    need_facts(frame, facts)
    if find_ring(facts) is not None:
        raise Impossible("no setting keeps all these facts")
    # Each value is the least one from 0 on that it can have: so the setting is the least one,
    # and plain, as all values could otherwise be less by 1.
    return (least_row(frame[0], [fact for fact in facts if fact[0] == "x"]),
            least_row(frame[1], [fact for fact in facts if fact[0] == "y"]))


def ring(frame, facts):
    """Find facts that contradict one another in a ring; None if the facts are possible."""
    need_facts(frame, facts)
    return find_ring(facts)

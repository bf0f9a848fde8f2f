"""What tells a device that is told no from one that is told yes: rounds with equal counts, exchanges, squares."""

from backinstep.basics import is_sequence_of, lies_in
from backinstep.devices import (
    check_counts, check_pieces, effect_left, joined_effects, pieces_counts, pieces_effect, row_effect, said_effect,
    signal_tables,
)
from backinstep.errors import BadPieces, PaperFault, TooGreat
from backinstep.spaces import effect_load, take_load
from backinstep.turns import Turn
from backinstep.verdicts import no_paper
from backinstep.webs import first_rows

MOST_TOLD = 8
MOST_SEARCHED = 4
MOST_COUNTED = 500


def check_small(device, most):
    """Raise TooGreat for a device of more states."""
    if device.states > most:
        raise TooGreat(most)


def left_many(effect):
    """How many states an effect leaves alone."""
    return len(effect_left(effect))


def unlike_exchange(device, effect, lot):
    """The first signals x before y whose exchange ahead of an effect leaves another number alone, or None.

    With the signals of a lot they are all signals.
    """
    tables = signal_tables(device)
    for one in device.signals:
        for other in device.signals:
            if one < other and lies_in(device.signals, lot + one + other):
                straight = joined_effects(joined_effects(tables[one], tables[other]), effect)
                turned = joined_effects(joined_effects(tables[other], tables[one]), effect)
                if left_many(straight) != left_many(turned):
                    return one, other
    return None


def unlike_paper(device):
    """The paper of two rounds with equal counts that leave unlike numbers alone, None for a device told yes."""
    check_small(device, MOST_TOLD)
    paper = no_paper(device)
    if paper is None:
        return None
    again = paper[2]
    times = Turn(device, again).square_at()
    # what the square of this round keeps wrongly shows ahead of some row with the square in it; rows whose tables are
    # sums of multiples of others' show no more than these
    basis = {}
    queue = [("", "", said_effect(row_effect(device, again), times))]
    take_load(basis, effect_load(queue[0][2]))
    at = 0
    while unlike_exchange(device, queue[at][2], device.signals) is None:
        ahead, behind, effect = queue[at]
        for sign, table in signal_tables(device).items():
            for more in ((sign + ahead, behind, joined_effects(table, effect)),
                         (ahead, behind + sign, joined_effects(effect, table))):
                if take_load(basis, effect_load(more[2])):
                    queue.append(more)
        at += 1
    ahead, behind, effect = queue[at]
    one, other = unlike_exchange(device, effect, device.signals)
    tail = ((again, times),) + (((behind, 1),) if behind != "" else ())
    return "unlike", ((one + other + ahead, 1),) + tail, ((other + one + ahead, 1),) + tail


def check_unlike(device, value):
    """Raise PaperFault for any value that is no paper of unlike rounds, with the place of the first fault."""
    if not is_sequence_of(value, 3) or value[0] != "unlike":
        raise PaperFault(0)
    try:
        told = [check_pieces(device, pieces) for pieces in value[1:]]
    except BadPieces:
        raise PaperFault(0) from None
    counts = [pieces_counts(device, pieces) for pieces in told]
    for at, count in enumerate(counts):
        if 0 in count:
            raise PaperFault(at + 1)
    if counts[0] != counts[1]:
        raise PaperFault(3)
    numbers = [left_many(pieces_effect(device, pieces)) for pieces in told]
    if numbers[0] == numbers[1]:
        raise PaperFault(4)


def unlike_holds(device, value):
    """Whether any value is a paper of unlike rounds."""
    try:
        check_unlike(device, value)
    except PaperFault:
        return False
    return True


def effect_rows(device):
    """By (effect, lot) of rows the first such row, in their order."""
    tables = signal_tables(device)

    def moves_of(node):
        effect, lot = node
        return [(sign, (joined_effects(effect, tables[sign]), "".join(sorted(set(lot + sign))))) for sign in tables]

    return first_rows((tuple(range(device.states)), ""), moves_of)


def first_exchange(device):
    """The first row and two signals whose exchange ahead of it changes the number left alone by a round, or None."""
    check_small(device, MOST_SEARCHED)
    for (effect, lot), row in effect_rows(device).items():
        found = unlike_exchange(device, effect, lot)
        if found is not None:
            return (row,) + found
    return None


def told_numbers(device, counts):
    """How many rows with just these counts leave each number of states alone."""
    told = check_counts(device, counts)
    check_small(device, MOST_SEARCHED)
    tellings = 1
    for count in told:
        tellings *= count + 1
    if tellings > MOST_COUNTED:
        raise TooGreat(MOST_COUNTED)
    totals = {tuple(range(device.states)): 1}
    layers = {tuple([0] * len(told)): totals}
    for _ in range(sum(told)):
        layers = longer_rows(device, told, layers)
    numbers = {}
    for effect, many in layers[told].items():
        number = left_many(effect)
        numbers[number] = numbers.get(number, 0) + many
    return tuple(sorted(list(numbers.items())))


def longer_rows(device, told, layers):
    """By counts and effect how many rows of one signal more there are, none with more than told counts."""
    longer = {}
    for counts, totals in layers.items():
        for index, table in enumerate(device.tables):
            if counts[index] < told[index]:
                more = counts[:index] + (counts[index] + 1,) + counts[index + 1:]
                ends = longer.setdefault(more, {})
                for effect, many in totals.items():
                    end = joined_effects(effect, table)
                    ends[end] = ends.get(end, 0) + many
    return longer


def round_squares(device):
    """The effects of rounds that are their own squares."""
    effects = [effect for effect, lot in effect_rows(device) if lot == device.signals]
    return [effect for effect in effects if joined_effects(effect, effect) == effect]


def squares_agree(device):
    """Whether each square, any other one and it again have the effect of this square alone."""
    check_small(device, MOST_SEARCHED)
    squares = round_squares(device)
    for one in squares:
        for other in squares:
            if joined_effects(joined_effects(one, other), one) != one:
                return False
    return True


def signals_commute(device):
    """Whether between a square and itself any two signals have one effect in either order."""
    check_small(device, MOST_SEARCHED)
    for square in round_squares(device):
        for one in device.tables:
            for other in device.tables:
                straight = joined_effects(joined_effects(square, one), joined_effects(other, square))
                turned = joined_effects(joined_effects(square, other), joined_effects(one, square))
                if straight != turned:
                    return False
    return True

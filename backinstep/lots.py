"""What becomes of a device if some signals never come, and devices that are right whatever comes."""

from backinstep.basics import (
    all_lots, are_integers, is_lot, is_row, is_sequence, is_sequence_of, is_signal, lies_in,
)
from backinstep.classes import fewest_notes
from backinstep.devices import check_counts, few_signals, joined_effects, row_effect, signal_tables
from backinstep.entries import joint_stair, seat_rows
from backinstep.errors import NotYes, Refused
from backinstep.families import plain_family
from backinstep.hours import added, device_hours, hour_total
from backinstep.spaces import (
    chain_spaces, effect_load, exchange_loads, is_right, is_spanned, is_which_lot, least_multiple, load_behind,
    spare_load, take_load, unit_loads,
)
from backinstep.stairs import in_stair, stair_rest
from backinstep.stories import left_many, unlike_exchange
from backinstep.verdicts import is_yes

MOST_EXCHANGED = 9998
MOST_SPACES = 60


def lot_table(device):
    """Of each lot whether the device is told yes with its signals alone, how many hours and how many classes it has."""
    lines = [("", True, device.states, device.states)]
    for lot in all_lots(device.signals):
        few = few_signals(device, lot)
        lines.append((lot, is_yes(few), hour_total(few), fewest_notes(few, plain_family(few))))
    return tuple(lines)


def check_lot(device, lot):
    """Raise Refused for any value that is no lot."""
    if not is_lot(device, lot):
        raise Refused(lot)


def lot_hours(device, lot):
    """How many hours all closed districts have with the signals of a lot alone."""
    return device.states if lot == "" else hour_total(few_signals(device, lot))


def wrong_lot(device):
    """The first lot that is not told yes, or None."""
    for lot in all_lots(device.signals):
        if not is_yes(few_signals(device, lot)):
            return lot
    return None


def unlike_lot(device):
    """The first lot that is not told yes or has a closed district of more than one hour, or None."""
    for lot in all_lots(device.signals):
        if not is_which_lot(device, lot):
            return lot
    return None


def need_right(device):
    """Raise NotYes for a device that is not right, with the first wrong lot."""
    lot = wrong_lot(device)
    if lot is not None:
        raise NotYes(lot)


def left_by_counts(device, counts):
    """How many states a row with these counts leaves alone."""
    told = check_counts(device, counts)
    need_right(device)
    lot = "".join([sign for sign, count in zip(device.signals, told) if count > 0])
    if lot == "":
        return device.states
    return kept_hours(device_hours(few_signals(device, lot)), [count for count in told if count > 0])


def kept_hours(hours_list, counts):
    """How many hours those districts have together whose hours are kept by some counts."""
    return sum([hours.size for hours in hours_list if in_stair(hours.stair, counts)])


def spanning(start, moves_of, load_of, is_found):
    """The first rows from a thing on, with what they lead it to, whose loads those of earlier ones do not span.

    The last one is the first that is found to be what is asked for, if there is one.
    """
    basis = {}
    found = []
    seen = {start: True}
    queue = [("", start)]
    at = 0
    while at < len(queue):
        row, thing = queue[at]
        # what comes behind a spanned thing is spanned by what comes behind the others
        if take_load(basis, load_of(thing)):
            found.append((row, thing))
            if is_found(thing):
                break
            for sign, goal in moves_of(thing):
                if goal not in seen:
                    seen[goal] = True
                    queue.append((row + sign, goal))
        at += 1
    return found


def spanning_effects(device, is_found):
    """The spanning rows, each with its effect, to the first that is found to be what is asked for."""
    tables = list(zip(device.signals, device.tables))

    def moves_of(effect):
        return [(sign, joined_effects(effect, table)) for sign, table in tables]

    return spanning(tuple(range(device.states)), moves_of, effect_load, is_found)


def spanning_rows(device):
    """The first rows whose effects, as tables, are no sums of multiples of those of earlier rows."""
    return tuple([row for row, _ in spanning_effects(device, lambda effect: False)])


def wrong_exchange(device):
    """The first row and signals whose exchange ahead of it changes the number left alone, None for a right device."""
    if is_right(device):
        return None
    signals = device.signals
    row, effect = spanning_effects(device, lambda told: unlike_exchange(device, told, signals) is not None)[-1]
    return (row,) + unlike_exchange(device, effect, signals)


def chain_paper(device):
    """The paper of the chain of a right device, of an exchange of any other one."""
    spaces = chain_spaces(device)
    if spaces[-1]:
        return ("exchange",) + wrong_exchange(device)
    return "chain", tuple([tuple([tuple(load) for load in loads]) for loads in spaces])


def chain_holds(device, value):
    """Whether any value is a paper of a chain that ends, or of an exchange."""
    if is_sequence_of(value, 4) and value[0] == "exchange":
        return exchange_holds(device, value[1], value[2], value[3])
    if not is_sequence_of(value, 2) or value[0] != "chain":
        return False
    spaces = value[1]
    if not is_sequence(spaces) or not 1 <= len(spaces) <= MOST_SPACES:
        return False
    if not all([are_loads(device, loads) for loads in spaces]) or len(spaces[-1]) > 0:
        return False
    before = unit_loads(device.states)
    for loads in spaces:
        basis = basis_of(loads)
        if not all([is_spanned(basis, more) for load in before for more in exchange_loads(device, load)]):
            return False
        before = list(basis.values())
        if not all([is_spanned(basis, load_behind(load, table)) for load in before for table in device.tables]):
            return False
    return True


def exchange_holds(device, row, one, other):
    """Whether any values are a row and two signals whose exchange ahead of it changes the number left alone."""
    if not is_row(device, row) or len(row) > MOST_EXCHANGED:
        return False
    if not is_signal(device, one) or not is_signal(device, other):
        return False
    numbers = [left_many(row_effect(device, word + row)) for word in (one + other, other + one)]
    return one < other and numbers[0] != numbers[1]


def are_loads(device, value):
    """Whether any value is a sequence of loads."""
    return is_sequence(value) and all([are_integers(load, device.states) for load in value])


def basis_of(loads):
    """A basis of what some loads span."""
    basis = {}
    for load in loads:
        take_load(basis, load)
    return basis


def which_rows(device):
    """Two rows with the same signals in them that leave unlike numbers alone, None if there are none."""
    lot = unlike_lot(device)
    if lot is None:
        return None
    few = few_signals(device, lot)
    if is_yes(few):
        rows = unlike_rounds(few)
    else:
        row, one, other = wrong_exchange(few)
        rows = (one + other + row, other + one + row)
    return tuple(["".join([lot[few.signals.index(sign)] for sign in row]) for row in rows])


def unlike_rounds(device):
    """Two rounds that leave unlike numbers alone, of a device told yes that has a district of more than one hour."""
    hours_list = device_hours(device)
    joint = joint_stair(device)
    first = stair_rest(joint, [1] * len(device.signals))
    queue = [(device.signals, first)]
    seen = {first: True}
    # over all joint hours the number is not one and the same, so it changes somewhere on the way
    at = 0
    while kept_hours(hours_list, queue[at][1]) == kept_hours(hours_list, first):
        row, rest = queue[at]
        for index, sign in enumerate(device.signals):
            unit = [1 if place == index else 0 for place in range(len(joint))]
            more = stair_rest(joint, added(rest, unit))
            if more not in seen:
                seen[more] = True
                queue.append((row + sign, more))
        at += 1
    return device.signals, queue[at][0]


def level_numbers(device):
    """By lot, in their order, its level."""
    lots = ("",) + all_lots(device.signals)
    hours = {lot: lot_hours(device, lot) for lot in lots}
    levels = {}
    # the hours of a lot are the levels of all lots that have all its signals
    for lot in reversed(lots):
        levels[lot] = hours[lot] - sum([level for more, level in levels.items() if lies_in(lot, more)])
    return {lot: levels[lot] for lot in lots}


def lot_levels(device):
    """The levels from 1 on, each with its lot, in the order of lots."""
    need_right(device)
    return tuple([(lot, level) for lot, level in level_numbers(device).items() if level > 0])


def closed_lot(device, lot):
    """The greatest lot that has all signals of a lot and as many hours."""
    check_lot(device, lot)
    levels = [told for told, _ in lot_levels(device) if lies_in(lot, told)]
    return "".join([sign for sign in device.signals if all([sign in told for told in levels])])


def gathering_lots(device):
    """The least lots with as many hours as all signals, in the order of lots."""
    need_right(device)
    many = lot_hours(device, device.signals)
    lots = []
    for lot in ("",) + all_lots(device.signals):
        if lot_hours(device, lot) == many and not any([lies_in(less, lot) for less in lots]):
            lots.append(lot)
    return tuple(lots)


def gather_row(device):
    """The first row behind which no more places are taken than there are hours."""
    need_right(device)
    return list(seat_rows(device).values())[0]


def triangle_paper(device):
    """The paper of loads, one behind another, that each signal takes off or keeps but for those before."""
    lot = unlike_lot(device)
    if lot is not None:
        raise NotYes(lot)
    lots = [told for told, level in level_numbers(device).items() if level > 0]
    basis = {}
    rows = []
    while len(rows) < device.states:
        for told in lots:
            loads = level_loads(device, basis, told)
            for load in loads:
                take_load(basis, load)
                rows.append((tuple(load), told))
    return "triangle", tuple(rows)


def level_loads(device, basis, lot):
    """Loads, none spanned by a basis and the others, that each signal of a lot keeps and each other one takes off.

    Both are so but for what the basis spans.
    """
    size = device.states
    fresh = basis_of(list(basis.values()))
    loads = [load for load in unit_loads(size) if take_load(fresh, load)]
    for sign, table in signal_tables(device).items():
        # what the signal makes too much stands ahead, the load that it makes it of behind; where the first part
        # can be taken off, the second one is a load to keep
        marked = {place: list(load) + [0] * size for place, load in basis.items()}
        kept = []
        for load in loads:
            moved = load_behind(load, table)
            ahead = [number - less for number, less in zip(moved, load)] if sign in lot else moved
            rest = spare_load(marked, ahead + list(load))
            if any(rest[:size]):
                take_load(marked, rest)
            else:
                kept.append(least_multiple(rest[size:]))
        loads = kept
    return loads


def triangle_holds(device, value):
    """Whether any value is a paper of such loads."""
    if not is_sequence_of(value, 2) or value[0] != "triangle" or not is_sequence_of(value[1], device.states):
        return False
    basis = {}
    for row in value[1]:
        if not is_sequence_of(row, 2) or not are_integers(row[0], device.states) or not is_lot(device, row[1]):
            return False
        load, lot = row
        for sign, table in signal_tables(device).items():
            moved = load_behind(load, table)
            ahead = [number - less for number, less in zip(moved, load)] if sign in lot else moved
            if not is_spanned(basis, ahead):
                return False
        if not take_load(basis, load):
            return False
    return True

"""Weighted tables and their roots, devices with told levels, and which devices leave equal numbers alone."""

from backinstep.basics import (
    are_integers, check_number, in_lot_order, is_lot_of, is_number_to, is_sequence,
    is_sequence_of,
)
from backinstep.dealings import all_dials, hour_exponent, weighed
from backinstep.devices import Device, joined_effects
from backinstep.errors import NotYes, Refused, TooGreat
from backinstep.hours import device_hours
from backinstep.lots import check_lot, lot_levels, spanning, unlike_lot
from backinstep.spaces import effect_load, power_trace, weighted_rows
from backinstep.stairs import stair_of, stair_within
from backinstep.stories import left_many
from backinstep.verdicts import need_yes

MOST_WEIGHT = 10 ** 6
MOST_MODULUS = 10 ** 9
MOST_LEVEL = 60
MOST_COMPARED = 4


def check_weights(device, weights):
    """Raise Refused for any value that is no sequence of one weight for each signal."""
    if not are_integers(weights, len(device.signals)):
        raise Refused(weights)
    if not all([is_number_to(weight, -MOST_WEIGHT, MOST_WEIGHT) for weight in weights]):
        raise Refused(weights)


def weighted_table(device, weights):
    """By state by state the sum of the weights of the signals that lead there."""
    check_weights(device, weights)
    return tuple([tuple(row) for row in weighted_rows(device.tables, weights)])


def polynomial_of(rows):
    """The numbers of the polynomial det(t - table) in t, the power 0 first."""
    size = len(rows)
    short = [[(goal, weight) for goal, weight in enumerate(line) if weight != 0] for line in rows]
    numbers = [1]
    # Leverrier's way: each number comes of the trace of the table times what the numbers ahead make
    product_rows = [[0] * size for _ in range(size)]
    for step in range(1, size + 1):
        added_rows = [row[:at] + [row[at] + numbers[-1]] + row[at + 1:] for at, row in enumerate(product_rows)]
        product_rows = [
            [sum([weight * added_rows[goal][column] for goal, weight in line]) for column in range(size)]
            for line in short]
        numbers.append(-sum([product_rows[place][place] for place in range(size)]) // step)
    return tuple(numbers[::-1])


def root_polynomial(device, weights):
    """The numbers of the polynomial det(t - weighted table), the power 0 first."""
    check_weights(device, weights)
    return polynomial_of(weighted_rows(device.tables, weights))


def clock_polynomial(hours, lot, weights):
    """The same for the table of the hours of a district, with the signals of a lot alone."""
    check_lot(hours.device, lot)
    check_weights(hours.device, weights)
    places = {hour: at for at, hour in enumerate(hours.hours_list())}
    rows = [[0] * len(places) for _ in places]
    for index, sign in enumerate(hours.device.signals):
        counts = [1 if place == index else 0 for place in range(len(weights))]
        if sign in lot:
            for hour, at in places.items():
                rows[at][places[hours.moved_hour(hour, counts)]] += weights[index]
    return polynomial_of(rows)


def weight_roots(device, weights):
    """The roots of the polynomial of a device whose rows with the same signals leave equal numbers alone, ascending."""
    check_weights(device, weights)
    wrong = unlike_lot(device)
    if wrong is not None:
        raise NotYes(wrong)
    roots = []
    for lot, level in lot_levels(device):
        roots += [sum([weight for sign, weight in zip(device.signals, weights) if sign in lot])] * level
    return tuple(sorted(roots))


def weight_trace(device, weights, times, modulus):
    """The numbers left alone by all rows of so many signals, each times its weights, added up, modulo a number."""
    check_weights(device, weights)
    check_number(times, 1)
    check_number(modulus, 1, MOST_MODULUS)
    return power_trace(weighted_rows(device.tables, weights), times, modulus)


def check_levels(signals, value):
    """The levels that any value tells, in the order of lots, or Refused."""
    if not is_sequence(value) or not all([is_level(signals, pair) for pair in value]):
        raise Refused(value)
    levels = {lot: many for lot, many in value}
    if len(levels) < len(value):
        raise Refused(value)
    return in_order(levels)


def is_level(signals, value):
    """Whether any value tells a lot of some signals and how many states are left alone by just its signals."""
    return is_sequence_of(value, 2) and is_lot_of(signals, value[0]) and is_number_to(value[1], 1, MOST_LEVEL)


def in_order(levels):
    """The levels of a dict, in the order of lots."""
    return tuple([(lot, levels[lot]) for lot in in_lot_order(list(levels))])


def star_device(signals, value):
    """A device with told levels: the signals of its lot leave a state alone, all others lead it to one place."""
    levels = check_levels(signals, value)
    if signals not in dict(levels):
        raise Refused(value)
    # the first state is left alone by all
    lots = [lot for lot, many in reversed(levels) for _ in range(many)]
    if len(lots) > MOST_LEVEL:
        raise TooGreat(MOST_LEVEL)
    return Device([[at if sign in lot else 0 for at, lot in enumerate(lots)] for sign in signals])


def joined_levels(signals, one, other):
    """The levels of two devices side by side, of which one is taken."""
    levels = dict(check_levels(signals, one))
    for lot, many in check_levels(signals, other):
        levels[lot] = levels.get(lot, 0) + many
    return in_order(levels)


def crossed_levels(signals, one, other):
    """The levels of two devices that hear the same, both with their places."""
    levels = {}
    mine = check_levels(signals, one)
    for more, times in check_levels(signals, other):
        for lot, many in mine:
            both = "".join([sign for sign in lot if sign in more])
            levels[both] = levels.get(both, 0) + many * times
    return in_order(levels)


def clock_shares(device):
    """The staircases of at most one part around those of closed districts, each with around how many."""
    need_yes(device)
    hours_list = device_hours(device)
    stairs = {}
    for hours in hours_list:
        for stair in dial_stairs(hours):
            stairs[stair] = True
    shares = []
    for stair in sorted(list(stairs)):
        shares.append((stair, len([hours for hours in hours_list if stair_within(hours.stair, stair)])))
    return tuple(shares)


def dial_stairs(hours):
    """The staircases of at most one part around that of a district: of the counts that leave some dial as it is."""
    modulus = hour_exponent(hours)
    stairs = []
    for weights in all_dials(hours, modulus):
        kept = [hour for hour in hours.hours_list() if weighed(weights, hour) % modulus == 0]
        stairs.append(stair_of(len(weights), list(hours.stair) + kept))
    return stairs


def parting_row(one, other):
    """The first row that leaves unlike numbers alone in two devices, or None."""
    if one.signals != other.signals:
        raise Refused(other)
    if max(one.states, other.states) > MOST_COMPARED:
        raise TooGreat(MOST_COMPARED)
    tables = list(zip(one.signals, one.tables, other.tables))

    def moves_of(ends):
        mine, theirs = ends
        return [(sign, (joined_effects(mine, left), joined_effects(theirs, right))) for sign, left, right in tables]

    def loads_of(ends):
        return effect_load(ends[0]) + effect_load(ends[1])

    def is_parted(ends):
        return left_many(ends[0]) != left_many(ends[1])

    # what a row leaves alone in both hangs on its two tables, and so on those of the rows that span them
    start = (tuple(range(one.states)), tuple(range(other.states)))
    row, last = spanning(start, moves_of, loads_of, is_parted)[-1]
    return row if is_parted(last) else None


def same_numbers(one, other):
    """Whether two devices leave equally many states alone whatever the row."""
    return parting_row(one, other) is None

"""How many rounds have told counts, joint hours or numbers left alone, which is the first one and which the n-th."""

from math import comb, gcd

from backinstep.basics import MOST_NUMBER, all_lots, check_number, check_row, is_number, lies_in
from backinstep.devices import check_counts
from backinstep.errors import Refused, TooGreat
from backinstep.spaces import power_trace, weighted_rows
from backinstep.webs import first_rows

MOST_SIGNALS = 600
MOST_STATES = 8
MOST_LISTED = 60


def rounds_of_counts(device, counts):
    """How many rounds have these counts."""
    told = check_counts(device, counts)
    if 0 in told:
        raise Refused(counts)
    if sum(told) > MOST_SIGNALS:
        raise TooGreat(MOST_SIGNALS)
    many = 1
    total = 0
    for count in told:
        total += count
        many *= comb(total, count)
    return many


def check_modulus(modulus):
    """Raise Refused for any value that is no modulus and not None."""
    if modulus is not None:
        check_number(modulus, 2, MOST_NUMBER)


def check_long(length, modulus):
    """Raise TooGreat for a length that is too great to be counted without a modulus."""
    if modulus is None and length > MOST_SIGNALS:
        raise TooGreat(MOST_SIGNALS)


def check_plain_number(number):
    """Raise Refused for any value that is no number."""
    if not is_number(number):
        raise Refused(number)


def left_over(number, modulus):
    """What a modulus leaves of a number, the number itself without one."""
    return number if modulus is None else number % modulus


def lot_signs(signals):
    """Each lot, also the empty one, with 1 or -1: so rows of all lots, added up, make the rounds."""
    signs = [1 if (len(signals) - len(lot)) & 1 == 0 else -1 for lot in all_lots(signals)]
    return [("", 1 if len(signals) & 1 == 0 else -1)] + list(zip(all_lots(signals), signs))


def hour_sums(clocks):
    """By two joint hours that of a row with the first and then one with the second."""
    return [[clocks.joint_after(hour, row) for row in clocks.joint_rows] for hour in range(clocks.joint_many)]


def rows_by_hour(clocks, sums, lot, length, modulus):
    """By joint hour how many rows of a length with signals of a lot have it."""
    tables = [table for sign, table in zip(clocks.device.signals, clocks.joint_tables) if sign in lot]
    totals = [1] + [0] * (clocks.joint_many - 1)
    for at in reversed(range(length.bit_length())):
        doubled = [0] * clocks.joint_many
        for many, row in zip(totals, sums):
            if many:
                for more, hour in zip(totals, row):
                    doubled[hour] += many * more
        if length >> at & 1:
            totals = [0] * clocks.joint_many
            for table in tables:
                for many, hour in zip(doubled, table):
                    totals[hour] += many
        else:
            totals = doubled
        totals = [left_over(many, modulus) for many in totals]
    return totals


def counted_rounds(clocks, length, modulus):
    """By joint hour how many rounds of a length have it."""
    sums = hour_sums(clocks)
    totals = [0] * clocks.joint_many
    for lot, sign in lot_signs(clocks.device.signals):
        rows = rows_by_hour(clocks, sums, lot, length, modulus)
        totals = [left_over(total + sign * many, modulus) for total, many in zip(totals, rows)]
    return tuple(totals)


def rounds_by_hour(clocks, length, *, modulus=None):
    """By joint hour how many rounds of a length have it."""
    check_number(length)
    check_modulus(modulus)
    check_long(length, modulus)
    return counted_rounds(clocks, length, modulus)


def rounds_leaving(clocks, length, number, *, modulus=None):
    """How many rounds of a length leave just so many states alone."""
    check_number(length)
    check_plain_number(number)
    check_modulus(modulus)
    check_long(length, modulus)
    totals = counted_rounds(clocks, length, modulus)
    return left_over(sum([many for hour, many in enumerate(totals) if clocks.alone(hour) == number]), modulus)


def total_left(device, length, *, modulus=None):
    """How many states each round of a length leaves alone, added up over all of these."""
    check_number(length)
    check_modulus(modulus)
    check_long(length, modulus)
    if device.states > MOST_STATES:
        raise TooGreat(MOST_STATES)
    total = 0
    for lot, sign in lot_signs(device.signals):
        weights = [1 if told in lot else 0 for told in device.signals]
        total += sign * power_trace(weighted_rows(device.tables, weights), length, modulus)
    return left_over(total, modulus)


def round_rows(clocks):
    """By joint hour and lot of rows the first such row, in their order."""
    tables = list(zip(clocks.device.signals, clocks.joint_tables))

    def moves_of(node):
        hour, lot = node
        return [(sign, (table[hour], lot_with(lot, sign))) for sign, table in tables]

    return first_rows((0, ""), moves_of)


def lot_with(lot, sign):
    """The lot with one signal more."""
    return lot if sign in lot else "".join(sorted(lot + sign))


def first_round(clocks, hour):
    """The first round with a joint hour."""
    clocks.check_hour(hour)
    return round_rows(clocks)[(hour, clocks.device.signals)]


def first_leaving(clocks, number):
    """The first round that leaves just so many states alone, or None."""
    check_plain_number(number)
    for (hour, lot), row in round_rows(clocks).items():
        if lot == clocks.device.signals and clocks.alone(hour) == number:
            return row
    return None


def hour_layers(clocks):
    """The joint hours of the shortest rounds, of those with one signal more, .., until all of a beat are there."""
    layers = [(clocks.joint_after(0, clocks.device.signals),)]
    beat = len(clocks.same_beat())
    while len(layers[-1]) < beat:
        layers.append(tuple(sorted(set([table[hour] for table in clocks.joint_tables for hour in layers[-1]]))))
    return layers


def hours_at(clocks, length):
    """The joint hours that rounds of a length have, ascending."""
    check_number(length)
    least = len(clocks.device.signals)
    layers = hour_layers(clocks)
    if length < least:
        return ()
    if length - least < len(layers):
        return layers[length - least]
    return beat_hours(clocks, length)


def beat_hours(clocks, length):
    """All joint hours with the beat of a length."""
    beats = clocks.beats()
    return tuple([hour for hour, row in enumerate(clocks.joint_rows) if (length - len(row)) % beats == 0])


def settled_length(clocks):
    """The least length from which on rounds have all joint hours of their beat."""
    return len(clocks.device.signals) + len(hour_layers(clocks)) - 1


def limit_share(clocks, length, number):
    """The part of the joint hours of a length's beat that leave just so many states alone, in lowest terms."""
    check_number(length)
    check_plain_number(number)
    hours = beat_hours(clocks, length)
    fits = len([hour for hour in hours if clocks.alone(hour) == number])
    common = gcd(fits, len(hours))
    return fits // common, len(hours) // common


def ending_rows(clocks, length, number):
    """For 0, 1, .. signals more by (joint hour, lot) how many rows make of it a round that leaves so many alone."""
    signals = clocks.device.signals
    tables = list(zip(signals, clocks.joint_tables))
    lots = ("",) + all_lots(signals)
    ends = [hour for hour in range(clocks.joint_many) if clocks.alone(hour) == number]
    layers = [{(hour, signals): 1 for hour in ends}]
    for _ in range(length):
        layer = {}
        for lot in lots:
            goals = [(lot_with(lot, sign), table) for sign, table in tables]
            for hour in range(clocks.joint_many):
                many = sum([layers[-1].get((table[hour], more), 0) for more, table in goals])
                if many:
                    layer[(hour, lot)] = many
        layers.append(layer)
    return layers


def nth_round(clocks, length, number, place):
    """Of the rounds of a length that leave just so many states alone the one with a place, as strings go."""
    check_number(length)
    check_plain_number(number)
    check_plain_number(place)
    if length > MOST_LISTED:
        raise TooGreat(MOST_LISTED)
    layers = ending_rows(clocks, length, number)
    if layers[length].get((0, ""), 0) <= place:
        raise Refused(place)
    row = ""
    node = (0, "")
    while len(row) < length:
        layer = layers[length - len(row) - 1]
        for sign, table in zip(clocks.device.signals, clocks.joint_tables):
            goal = (table[node[0]], lot_with(node[1], sign))
            if place < layer.get(goal, 0):
                row = row + sign
                node = goal
                break
            place -= layer.get(goal, 0)
    return row


def place_of_round(clocks, row):
    """How many states a round leaves alone, and its place among the rounds of its length that leave as many."""
    check_row(clocks.device, row)
    if not lies_in(clocks.device.signals, row):
        raise Refused(row)
    if len(row) > MOST_LISTED:
        raise TooGreat(MOST_LISTED)
    number = clocks.alone(clocks.joint_after(0, row))
    layers = ending_rows(clocks, len(row), number)
    place = 0
    node = (0, "")
    for at, told in enumerate(row):
        layer = layers[len(row) - at - 1]
        goals = {}
        for sign, table in zip(clocks.device.signals, clocks.joint_tables):
            goals[sign] = (table[node[0]], lot_with(node[1], sign))
            if sign < told:
                place += layer.get(goals[sign], 0)
        node = goals[told]
    return number, place

"""Rows with told counts: from some counts on the hours alone decide where they lead."""

from backinstep.devices import check_counts, counts_of, signal_tables
from backinstep.errors import Refused, TooGreat
from backinstep.turns import Turn
from backinstep.webs import first_rows, state_moves

MOST_SPREAD = 5000
MOST_TELLINGS = 20000


def district_rings(hours):
    """By signal a ring of fewest states on which it leads some states of the district round."""
    rings = []
    for sign in hours.device.signals:
        inside = [ring for ring in Turn(hours.device, sign).rings if ring[0] in hours.district]
        rings.append(min(inside, key=len))
    return rings


def least_rings(hours):
    """By signal the least times from 1 on that it must be said to lead some state of the district to itself."""
    return tuple([len(ring) for ring in district_rings(hours)])


def spread_of(hours):
    """How many places a walk has that minds the state and, by signal, the count modulo the least ring."""
    places = len(hours.district)
    for length in least_rings(hours):
        places *= length
    return places // hours.size


def enough_number(hours):
    """From this count of each signal on the hours alone decide."""
    return len(hours.stair) * (len(hours.district) - 1) + spread_of(hours)


def checked_walk(hours, one, other, counts):
    """The counts as a tuple, behind a look at two states of the district."""
    hours.hour_at(one)
    hours.hour_at(other)
    return check_counts(hours.device, counts)


def great_walk(hours, one, other, counts):
    """Pieces of some row with great counts from one state to another one, None if the hours do not fit."""
    told = checked_walk(hours, one, other, counts)
    if spread_of(hours) > MOST_SPREAD:
        raise TooGreat(MOST_SPREAD)
    enough = enough_number(hours)
    for index, count in enumerate(told):
        if count < enough:
            raise Refused(index)
    if hours.moved_hour(hours.hour_at(one), told) != hours.hour_at(other):
        return None
    # first to a ring of each signal, then to the end with what is lacking but for whole rings
    signals = hours.device.signals
    rings = district_rings(hours)
    ways = ring_ways(hours, one, rings)
    used = counts_of(signals, "".join(ways))
    lack = [(count - less) % len(ring) for count, less, ring in zip(told, used, rings)]
    last = last_way(hours, rings[-1][0], other, lack, rings)
    used = counts_of(signals, "".join(ways) + last)
    pieces = []
    for index, ring in enumerate(rings):
        pieces.append((ways[index], 1))
        pieces.append((signals[index] * len(ring), (told[index] - used[index]) // len(ring)))
    pieces.append((last, 1))
    return tuple([(word, times) for word, times in pieces if word != ""])


def ring_ways(hours, one, rings):
    """The first rows from a state to the first ring, from there to the second one, and so on."""
    moves = state_moves(hours.device)
    ways = []
    state = one
    for ring in rings:
        rows = first_rows(state, lambda place: moves[place])
        state = ring[0]
        ways.append(rows[state])
    return ways


def last_way(hours, start, goal, lack, rings):
    """The first row from a state to another one whose counts are told modulo the lengths of rings."""
    moves = state_moves(hours.device)
    signals = hours.device.signals

    def moves_of(node):
        state, rest = node
        steps = []
        for sign, end in moves[state]:
            index = signals.index(sign)
            more = (rest[index] + 1) % len(rings[index])
            steps.append((sign, (end, rest[:index] + (more,) + rest[index + 1:])))
        return steps

    rows = first_rows((start, tuple([0] * len(signals))), moves_of)
    return rows[(goal, tuple(lack))]


def few_walk(hours, one, other, counts):
    """The least row with told counts from one state to another one, or None."""
    told = checked_walk(hours, one, other, counts)
    tellings = 1
    weights = []
    for count in told:
        weights.append(tellings)
        tellings *= count + 1
    if tellings > MOST_TELLINGS:
        raise TooGreat(MOST_TELLINGS)
    tables = signal_tables(hours.device)
    opens = open_states(hours, other, told, weights, tellings)
    if one not in opens[-1]:
        return None
    row = []
    state = one
    left = tellings - 1
    while left > 0:
        for index, sign in enumerate(tables):
            if count_in(left, index, told, weights) > 0 and tables[sign][state] in opens[left - weights[index]]:
                row.append(sign)
                state = tables[sign][state]
                left -= weights[index]
                break
    return "".join(row)


def count_in(telling, index, told, weights):
    """The count of a signal in the number of some counts."""
    return telling // weights[index] % (told[index] + 1)


def open_states(hours, goal, told, weights, tellings):
    """By the number of counts that are left the states from which some row with just these leads to a goal."""
    opens = [{goal: True}]
    for left in range(1, tellings):
        states = {}
        for index, table in enumerate(hours.device.tables):
            if count_in(left, index, told, weights) > 0:
                ahead = opens[left - weights[index]]
                for state in hours.district:
                    if table[state] in ahead:
                        states[state] = True
        opens.append(states)
    return opens

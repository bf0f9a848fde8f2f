"""Coarser hours: dealings of a closed district into groups, and dials."""

from math import gcd

from backinstep.basics import are_integers, is_integer
from backinstep.errors import Refused
from backinstep.stairs import (
    both_stair, is_stair, stair_parts, stair_rest, stair_size, stair_within, sum_stair,
)


class Dealing:
    """The groups into which a staircase that holds that of the hours deals a district."""

    def __init__(self, hours, stair):
        if not is_stair(stair) or len(stair) != len(hours.stair) or not stair_within(hours.stair, stair):
            raise Refused(stair)
        self.hours = hours
        self.stair = tuple([tuple(row) for row in stair])
        self.size = stair_size(self.stair)
        self.groups = equal_groups(hours, [stair_rest(self.stair, hours.by_state[state]) for state in hours.district])

    def __eq__(self, other):
        return isinstance(other, Dealing) and self.hours == other.hours and self.stair == other.stair


def equal_groups(hours, labels):
    """The groups of the states with equal labels, each ascending, by their least states."""
    groups = {}
    for state, label in zip(hours.district, labels):
        groups[label] = groups.get(label, ()) + (state,)
    return tuple(groups.values())


def stair_with(stair, vector):
    """The staircase of the vectors in one and one vector more, each a whole number of times."""
    return sum_stair(stair, [vector])


def all_dealings(hours):
    """All dealings of a district, ascending by staircase."""
    # each staircase around that of the hours comes of it by hours that are added one behind another
    found = {hours.stair: True}
    queue = [hours.stair]
    at = 0
    while at < len(queue):
        stair = queue[at]
        for hour in hours.hours_list():
            more = stair_with(stair, hour)
            if more not in found:
                found[more] = True
                queue.append(more)
        at += 1
    return tuple([Dealing(hours, stair) for stair in sorted(queue)])


def joined_dealing(one, other):
    """The finest dealing with each group of both in one of its own."""
    return Dealing(one.hours, sum_stair(one.stair, other.stair))


def met_dealing(one, other):
    """The coarsest dealing with each of its groups in one of both."""
    return Dealing(one.hours, both_stair(one.stair, other.stair))


def check_labels(hours, labels):
    """Raise Refused for any value that is no sequence of one integer for each state of the district."""
    if not are_integers(labels, len(hours.district)):
        raise Refused(labels)


def labels_dealing(hours, labels):
    """The only dealing whose groups are the states with equal labels, or None."""
    check_labels(hours, labels)
    groups = equal_groups(hours, labels)
    stair = hours.stair
    for group in groups:
        first = hours.by_state[group[0]]
        for state in group:
            stair = stair_with(stair, [number - less for number, less in zip(hours.by_state[state], first)])
    dealing = Dealing(hours, stair)
    return dealing if dealing.groups == groups else None


def is_commuting(hours, labels):
    """Whether all signals keep the groups of equal labels, and commute on them."""
    check_labels(hours, labels)
    tables = hours.device.tables
    group_of = {state: group[0] for group in equal_groups(hours, labels) for state in group}
    for table in tables:
        if not all([group_of[table[state]] == group_of[table[group_of[state]]] for state in hours.district]):
            return False
    for one in tables:
        for other in tables:
            if not all([group_of[other[one[state]]] == group_of[one[other[state]]] for state in hours.district]):
                return False
    return True


def check_weights(hours, weights):
    """Raise Refused for any value that is no sequence of one integer for each signal."""
    if not are_integers(weights, len(hours.stair)):
        raise Refused(weights)


def check_modulus(modulus):
    """Raise Refused for any value that is no integer from 1 on."""
    if not is_integer(modulus) or modulus < 1:
        raise Refused(modulus)


def weighed(weights, vector):
    """The sum of the numbers of a vector, each times its weight."""
    return sum([weight * number for weight, number in zip(weights, vector)])


def widest_dial(hours, weights):
    """The greatest modulus with which some weights make a dial, 0 if each does."""
    check_weights(hours, weights)
    widest = 0
    for row in hours.stair:
        widest = gcd(widest, weighed(weights, row))
    return widest


def is_dial(hours, weights, modulus):
    """Whether the state alone tells what a dial shows."""
    check_weights(hours, weights)
    check_modulus(modulus)
    return widest_dial(hours, weights) % modulus == 0


def dial_at(hours, weights, modulus, state):
    """What a dial shows at a state."""
    shows = is_dial(hours, weights, modulus)
    hour = hours.hour_at(state)
    if not shows:
        raise Refused(weights)
    return weighed(weights, hour) % modulus


def all_dials(hours, modulus):
    """The weights, each below the modulus, of all dials, ascending."""
    check_modulus(modulus)
    # from the last row of the staircase on, each row tells what one weight more can be
    dials = [()]
    for index in reversed(range(len(hours.stair))):
        row = hours.stair[index]
        dials = [
            (weight,) + later
            for later in dials
            for weight in fit_weights(row[index], weighed(later, row[index + 1:]), modulus)
        ]
    return tuple(sorted(dials))


def fit_weights(step, rest, modulus):
    """The weights below a modulus which, times a step and with a rest added, are 0 modulo it."""
    common = gcd(step, modulus)
    if rest % common != 0:
        return []
    span = modulus // common
    # times the step a weight runs through all multiples of the common divisor before it comes again
    first = -(rest // common) * inverse_of(step // common, span) % span
    return [first + span * turn for turn in range(common)]


def inverse_of(number, modulus):
    """By what a number without a common divisor is multiplied to be 1 modulo a modulus."""
    low, high = number % modulus, modulus
    of_low, of_high = 1, 0
    while low != 0:
        times = high // low
        low, high = high - times * low, low
        of_low, of_high = of_high - times * of_low, of_low
    return of_high % modulus


def dial_total(hours, modulus):
    """How many dials there are with a modulus."""
    check_modulus(modulus)
    total = 1
    for part in stair_parts(hours.stair):
        total *= gcd(modulus, part)
    return total


def hour_exponent(hours):
    """The least number of times that leads every hour to itself, whatever row is said."""
    parts = stair_parts(hours.stair)
    return parts[-1] if parts else 1

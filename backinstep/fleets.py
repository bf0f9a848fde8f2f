"""Copies that are told signals alone, so that all come into step."""

from backinstep.basics import (
    check_state, is_integer, is_number, is_number_to, is_sequence, is_sequence_of, is_signal, is_state,
)
from backinstep.classes import class_numbers
from backinstep.devices import counts_of, signal_tables
from backinstep.errors import Refused
from backinstep.families import check_family, led_from
from backinstep.hours import added
from backinstep.stairs import stair_rest
from backinstep.twain import check_hour, home_hours_of, vector_less
from backinstep.webs import first_rows

# who is told a signal: both copies, the first or the second one alone
BOTH = 0
FIRST = 1
SECOND = 2


def state_offset(device, one, other):
    """The hour of the second state less that of the first one, None if no closed district holds both."""
    check_state(device, one)
    check_state(device, other)
    hours = home_hours_of(device, one)
    if hours is None or other not in hours.by_state:
        return None
    return stair_rest(hours.stair, vector_less(hours.hour_at(other), hours.hour_at(one)))


def hour_rows(hours):
    """By hour the first row whose counts come to it from the hour of noughts."""
    signals = hours.device.signals

    def moves_of(hour):
        return [(sign, stair_rest(hours.stair, added(hour, counts_of(signals, sign)))) for sign in signals]

    return first_rows(tuple([0] * len(signals)), moves_of)


def hour_row(hours, hour):
    """The first row whose counts come to an hour from the hour of noughts."""
    check_hour(hours, hour)
    return hour_rows(hours)[hour]


def fleet_rows(device, states):
    """By copy in some states a row for it alone, so that all have one hour; None if no closed district holds all."""
    if not is_sequence(states) or len(states) == 0:
        raise Refused(states)
    for state in states:
        check_state(device, state)
    hours = home_hours_of(device, states[0])
    if hours is None or not all([state in hours.by_state for state in states]):
        return None
    rows = hour_rows(hours)

    def rows_to(goal):
        return [rows[stair_rest(hours.stair, vector_less(goal, hours.hour_at(place)))] for place in states]

    fleets = [rows_to(goal) for goal in hours.hours_list()]
    totals = [sum([len(row) for row in fleet]) for fleet in fleets]
    return tuple(fleets[totals.index(min(totals))])


def told_steps(device, place):
    """The steps of two copies in some states, as ((who, signal), their states behind it)."""
    one, other = place
    steps = []
    for sign, table in signal_tables(device).items():
        steps.append(((BOTH, sign), (table[one], table[other])))
        steps.append(((FIRST, sign), (table[one], other)))
        steps.append(((SECOND, sign), (one, table[other])))
    return steps


def mend_numbers(device, family):
    """By two states, if some steps lead them to one state or a sure pair, the fewest private signals of such steps."""
    numbers = class_numbers(device, family)
    places = [(one, other) for one in range(device.states) for other in range(device.states)]
    shared = {place: [] for place in places}
    private = {place: [] for place in places}
    for place in places:
        for (who, sign), goal in told_steps(device, place):
            sources = shared if who == BOTH else private
            sources[goal].append((sign, place))
    fewest = {}
    layer = [(one, other) for one, other in places if numbers[one] == numbers[other]]
    many = 0
    while layer:
        fresh = [place for place in led_from(lambda goal: shared[goal], layer) if place not in fewest]
        for place in fresh:
            fewest[place] = many
        layer = sorted(set([source for goal in fresh for _, source in private[goal] if source not in fewest]))
        many += 1
    return fewest


def mend_number(device, family, one, other):
    """The fewest private signals with which some steps lead two states to one or to a sure pair; None if none do."""
    told = check_family(device, family)
    check_state(device, one)
    check_state(device, other)
    return mend_numbers(device, told).get((one, other))


def mend_steps(device, family, fewest, start):
    """Steps with the fewest private signals that lead two states to one or to a sure pair."""
    numbers = class_numbers(device, family)
    steps = []
    place = start
    while True:
        many = fewest[place]
        rows = first_rows(place, lambda node: shared_steps(device, fewest, node))
        if many == 0:
            ends = [row for (one, other), row in rows.items() if numbers[one] == numbers[other]]
            return tuple(steps + [(BOTH, sign) for sign in ends[0]])
        downs = [(row, step, goal) for node, row in rows.items() for step, goal in told_steps(device, node)
                 if fewest.get(goal) == many - 1]
        row, step, place = downs[0]
        steps += [(BOTH, sign) for sign in row] + [step]


def shared_steps(device, fewest, place):
    """The steps by signals to both that lead two states to such as need as many private signals."""
    steps = told_steps(device, place)
    return [(sign, goal) for (who, sign), goal in steps if who == BOTH and fewest.get(goal) == fewest[place]]


def mend_paper(device, family, one, other):
    """The paper of the fewest private signals that mend two copies, or of pairs of states that none leads away from."""
    told = check_family(device, family)
    check_state(device, one)
    check_state(device, other)
    fewest = mend_numbers(device, told)
    if (one, other) not in fewest:
        places = led_from(lambda place: told_steps(device, place), [(one, other)])
        return "parted", one, other, tuple(sorted(places))
    # what no steps mend is put as high as anything, so that nothing falls to it
    most = max([1] + list(fewest.values()))
    places = [(here, there) for here in range(device.states) for there in range(device.states)]
    levels = [(place, fewest.get(place, most)) for place in places]
    steps = mend_steps(device, told, fewest, (one, other))
    return "mend", one, other, steps, tuple([(place, level) for place, level in levels if level > 0])


def mend_holds(device, family, one, other, value):
    """Whether any value is a paper of the fewest private signals that mend two copies, or of parted ones."""
    told = check_family(device, family)
    check_state(device, one)
    check_state(device, other)
    if not is_sequence(value) or len(value) < 4:
        return False
    if not is_integer(value[1]) or not is_integer(value[2]) or (value[1], value[2]) != (one, other):
        return False
    numbers = class_numbers(device, told)
    if value[0] == "parted":
        return len(value) == 4 and are_parted(device, numbers, (one, other), value[3])
    if value[0] != "mend" or len(value) != 5 or not are_levels(device, numbers, value[4]):
        return False
    levels = {tuple(place): level for place, level in value[4]}
    return are_mending(device, numbers, (one, other), value[3], levels.get((one, other), 0))


def is_apart(device, numbers, value):
    """Whether any value tells two states that are neither one nor sure, by the numbers of their classes."""
    if not is_sequence_of(value, 2) or not is_state(device, value[0]) or not is_state(device, value[1]):
        return False
    return numbers[value[0]] != numbers[value[1]]


def are_parted(device, numbers, start, value):
    """Whether any value is such pairs of states, none twice, a start among them, that no signal leads away from."""
    if not is_sequence(value) or not all([is_apart(device, numbers, place) for place in value]):
        return False
    places = {tuple(place): True for place in value}
    if len(places) != len(value) or start not in places:
        return False
    return all([goal in places for place in places for _, goal in told_steps(device, place)])


def is_level(device, numbers, value):
    """Whether any value tells of two states that are neither one nor sure a number from 1 on."""
    if not is_sequence_of(value, 2) or not is_apart(device, numbers, value[0]):
        return False
    return is_number(value[1]) and value[1] > 0


def are_levels(device, numbers, value):
    """Whether any value is levels from which no signal falls, but by 1 if it is told to one alone."""
    if not is_sequence(value) or not all([is_level(device, numbers, entry) for entry in value]):
        return False
    levels = {tuple(place): level for place, level in value}
    if len(levels) != len(value):
        return False
    for place, level in levels.items():
        for (who, _), goal in told_steps(device, place):
            if levels.get(goal, 0) < (level if who == BOTH else level - 1):
                return False
    return True


def are_mending(device, numbers, start, value, many):
    """Whether any value is steps, so many of them private, from a start to one state or a sure pair."""
    if not is_sequence(value) or not all([is_step(device, step) for step in value]):
        return False
    place = start
    for who, sign in value:
        place = dict(told_steps(device, place))[(who, sign)]
    one, other = place
    return numbers[one] == numbers[other] and len([who for who, _ in value if who != BOTH]) == many


def is_step(device, value):
    """Whether any value tells who is told a signal, and this."""
    return is_sequence_of(value, 2) and is_number_to(value[0], BOTH, SECOND) and is_signal(device, value[1])

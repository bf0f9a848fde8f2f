"""Two devices that hear one row: their places and hours side by side."""

from backinstep.basics import are_integers, check_state
from backinstep.devices import MOST_STATES, Device, counts_of
from backinstep.errors import Refused, TooGreat
from backinstep.hours import Hours, added
from backinstep.stairs import both_stair, laid_rows, stair_rest, sum_stair
from backinstep.sure import joining_numbers, led_pair
from backinstep.webs import district_of, first_rows, web_districts


def check_twain(one, other):
    """Raise Refused for a second device that has not as many signals as the first one."""
    if one.signals != other.signals:
        raise Refused(other)


def beside_device(one, other):
    """The device in whose states a state of each of two devices is taken."""
    check_twain(one, other)
    many = other.states
    if one.states * many > MOST_STATES:
        raise TooGreat(MOST_STATES)
    tables = []
    for table, more in zip(one.tables, other.tables):
        tables.append([goal * many + place for goal in table for place in more])
    return Device(tables)


def uniting_row(device, number):
    """A row that leads any two states of one hour of a closed district to one state, or None."""
    hours = Hours(device, number)
    groups = [hours.states_at(hour) for hour in sorted(set(list(hours.by_state.values())))]
    pairs = [(one, more) for group in groups for one in group for more in group if one < more]
    numbers = joining_numbers(device)
    if not all([pair in numbers for pair in pairs]):
        return None
    row = ""
    while pairs:
        word = joining_word(device, numbers, min(pairs, key=lambda pair: numbers[pair]))
        ends = [led_pair(device, pair, word) for pair in pairs]
        pairs = sorted(set([pair for pair in ends if pair is not None]))
        row = row + word
    return row


def joining_word(device, numbers, pair):
    """A row of the fewest signals that joins a pair, by the numbers of signals that pairs need."""
    word = ""
    while pair is not None:
        goals = [(sign, led_pair(device, pair, sign)) for sign in device.signals]
        near = [(sign, goal) for sign, goal in goals if goal is None or numbers.get(goal) == numbers[pair] - 1]
        joins = [sign for sign, goal in near if goal is None]
        sign, pair = (joins[0], None) if joins else near[0]
        word = word + sign
    return word


def home_hours_of(device, state):
    """The hours of the closed district of a state, None for an outsider."""
    number = district_of(device, state)
    return None if number is None else Hours(device, number)


def twain_hours(one, other, state, second):
    """The hours of the closed districts of two states, one of each device; None if either is an outsider."""
    check_twain(one, other)
    check_state(one, state)
    check_state(other, second)
    mine = home_hours_of(one, state)
    theirs = home_hours_of(other, second)
    return None if mine is None or theirs is None else (mine, theirs)


def vector_less(one, other):
    """A vector less another one."""
    return [number - less for number, less in zip(one, other)]


def states_rest(mine, theirs, state, second):
    """The hour of a state of a district less that of one of another district, as a rest by both staircases."""
    return stair_rest(sum_stair(mine.stair, theirs.stair), vector_less(mine.hour_at(state), theirs.hour_at(second)))


def twain_rest(one, other, state, second):
    """The hour of a state of the first device less that of one of the second, as a rest; None for an outsider."""
    hours = twain_hours(one, other, state, second)
    if hours is None:
        return None
    mine, theirs = hours
    return states_rest(mine, theirs, state, second)


def twain_parts(one, other, first, second):
    """The closed districts of both devices side by side whose parts are in two told ones, each with its rest."""
    check_twain(one, other)
    mine = Hours(one, first)
    theirs = Hours(other, second)
    parts = []
    for states in web_districts(beside_device(one, other)):
        state, place = divmod(states[0], other.states)
        if state in mine.by_state and place in theirs.by_state:
            parts.append((states_rest(mine, theirs, state, place), states))
    return tuple(sorted(parts))


def meeting_hours(one, other, state, second):
    """The pairs of hours that rows bring at one time from two states, ascending; None for an outsider."""
    hours = twain_hours(one, other, state, second)
    if hours is None:
        return None
    mine, theirs = hours
    both = sum_stair(mine.stair, theirs.stair)
    rest = states_rest(mine, theirs, state, second)
    pairs = [(hour, later) for hour in mine.hours_list() for later in theirs.hours_list()]
    return tuple([(hour, later) for hour, later in pairs if stair_rest(both, vector_less(hour, later)) == rest])


def is_hour(hours, value):
    """Whether any value is an hour of a district, as a tuple."""
    if not isinstance(value, tuple) or not are_integers(value, len(hours.stair)):
        return False
    return stair_rest(hours.stair, value) == value


def check_hour(hours, value):
    """Raise Refused for any value that is no hour of a district."""
    if not is_hour(hours, value):
        raise Refused(value)


def meeting_row(one, other, state, second, hour, later):
    """The first row that brings two told hours at one time from two states, None if there is none."""
    hours = twain_hours(one, other, state, second)
    if hours is None:
        return None
    mine, theirs = hours
    check_hour(mine, hour)
    check_hour(theirs, later)
    signals = one.signals

    def moves_of(pair):
        steps = []
        for sign in signals:
            counts = counts_of(signals, sign)
            goal = (stair_rest(mine.stair, added(pair[0], counts)), stair_rest(theirs.stair, added(pair[1], counts)))
            steps.append((sign, goal))
        return steps

    return first_rows((mine.hour_at(state), theirs.hour_at(second)), moves_of).get((hour, later))


def meeting_counts(stairs, vectors):
    """The rest of a vector that differs from each of some vectors by one in its staircase; None if there is none."""
    joint = stairs[0]
    meeting = list(vectors[0])
    width = len(meeting)
    for stair, vector in zip(stairs[1:], vectors[1:]):
        # behind the sums of a vector in each stands what is of the first, so that it can be taken off
        doubled = [list(row) + list(row) for row in joint] + [list(row) + [0] * width for row in stair]
        rows = laid_rows(2 * width, doubled)[:width]
        rest = stair_rest(rows, vector_less(meeting, vector) + [0] * width)
        if any(rest[:width]):
            return None
        meeting = [number + more for number, more in zip(meeting, rest[width:])]
        joint = both_stair(joint, stair)
    return stair_rest(joint, meeting)

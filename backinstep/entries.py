"""What a long row does to a device told yes: where outsiders enter, which seats are taken, by how much hours shift."""

from backinstep.basics import are_integers, is_integer
from backinstep.devices import counts_of, effect_places, row_counts, row_effect
from backinstep.errors import Refused, TooGreat
from backinstep.hours import added, device_hours, hour_total
from backinstep.stairs import both_stair, stair_rest, stair_size
from backinstep.verdicts import need_yes
from backinstep.webs import first_rows, outsiders

MOST_ENTERED = 8


def joint_stair(device):
    """The staircase of the vectors that are in those of all closed districts."""
    stairs = [hours.stair for hours in device_hours(device)]
    joint = stairs[0]
    for stair in stairs[1:]:
        joint = both_stair(joint, stair)
    return joint


def joint_size(device):
    """The size of the joint staircase."""
    return stair_size(joint_stair(device))


def need_small_yes(device):
    """Raise NotYes for a device told no, then TooGreat for one of too many states."""
    need_yes(device)
    if device.states > MOST_ENTERED:
        raise TooGreat(MOST_ENTERED)


def home_hours(device):
    """By state in a closed district the hours of this."""
    return {state: hours for hours in device_hours(device) for state in hours.district}


def entry_at(hours, state, counts):
    """The entry that a row with some counts brings if it leads to a state of a district."""
    moved = [number - count for number, count in zip(hours.by_state[state], counts)]
    return hours.number, stair_rest(hours.stair, moved)


def row_entries(device, row):
    """Where a row brings the outsiders: for each the number of the district and the hour less the counts."""
    counts = row_counts(device, row)
    need_yes(device)
    homes = home_hours(device)
    effect = row_effect(device, row)
    outside = outsiders(device)
    if not all([effect[state] in homes for state in outside]):
        raise Refused(row)
    return tuple([entry_at(homes[effect[state]], effect[state], counts) for state in outside])


def three_things(device, row):
    """The entries, the seats and the shift of a row that leaves only as many states taken as there are hours."""
    counts = row_counts(device, row)
    need_yes(device)
    seats = effect_places(row_effect(device, row))
    if len(seats) > hour_total(device):
        raise Refused(row)
    return row_entries(device, row), seats, stair_rest(joint_stair(device), counts)


def entry_rows(device):
    """By entries the first row that has them."""
    joint = joint_stair(device)
    homes = home_hours(device)
    outside = outsiders(device)
    width = len(device.signals)
    zeros = tuple([0] * width)
    # an outsider that is in a district is told by its entry, which no row changes, the others by their states
    start = (tuple([(state,) for state in outside]), zeros)

    def moves_of(node):
        places, counts = node
        steps = []
        for index, sign in enumerate(device.signals):
            told = stair_rest(joint, counts[:index] + (counts[index] + 1,) + counts[index + 1:])
            table = device.tables[index]
            ends = [place if len(place) == 2 else moved_place(homes, table[place[0]], told) for place in places]
            steps.append((sign, (tuple(ends), told)))
        return steps

    rows = {}
    for (places, _), row in first_rows(start, moves_of).items():
        if all([len(place) == 2 for place in places]) and places not in rows:
            rows[places] = row
    return rows


def moved_place(homes, state, counts):
    """The place of an outsider that rows with some counts led to a state: an entry if this is in a district."""
    return entry_at(homes[state], state, counts) if state in homes else (state,)


def image_rows(device):
    """By the states that are taken behind some row the first such row, in the order of these rows."""
    tables = list(zip(device.signals, device.tables))

    def moves_of(states):
        return [(sign, tuple(sorted(set([table[state] for state in states])))) for sign, table in tables]

    return first_rows(tuple(range(device.states)), moves_of)


def seat_rows(device):
    """By seats the first row that has them."""
    many = hour_total(device)
    return {places: row for places, row in image_rows(device).items() if len(places) == many}


def all_entries(device):
    """The entries of all rows that bring all outsiders into districts, ascending."""
    need_small_yes(device)
    return tuple(sorted(list(entry_rows(device))))


def all_seats(device):
    """The seats of all rows, ascending."""
    need_small_yes(device)
    return tuple(sorted(list(seat_rows(device))))


def effects_total(device):
    """How many effects rows have that leave only as many states taken as there are hours."""
    need_small_yes(device)
    return len(entry_rows(device)) * len(seat_rows(device)) * joint_size(device)


def is_alike(one, other):
    """Whether any value is a tuple of tuples and integers, as another one is, no bool among them."""
    if not isinstance(other, tuple):
        return is_integer(one) and one == other
    if not isinstance(one, tuple) or len(one) != len(other):
        return False
    return all([is_alike(item, told) for item, told in zip(one, other)])


def is_told(value, things):
    """Whether any value is one of some tuples."""
    return any([is_alike(value, told) for told in things])


def is_three(device, value, entries, seats):
    """Whether any value is a tuple of some entries, some seats and a shift."""
    if not isinstance(value, tuple) or len(value) != 3:
        return False
    return is_told(value[0], entries) and is_told(value[1], seats) and are_integers(value[2], len(device.signals))


def joined_three(device, one, other):
    """The three things of a row and then another one, by those of both."""
    need_small_yes(device)
    entries = list(entry_rows(device))
    seats = list(seat_rows(device))
    for value in (one, other):
        if not is_three(device, value, entries, seats):
            raise Refused(value)
    return one[0], other[1], stair_rest(joint_stair(device), added(one[2], other[2]))


def check_three(device, entries, seats, shift):
    """Raise Refused for the first of any three values that is not such a thing."""
    if not is_told(entries, list(entry_rows(device))):
        raise Refused(entries)
    if not is_told(seats, list(seat_rows(device))):
        raise Refused(seats)
    if not are_integers(shift, len(device.signals)):
        raise Refused(shift)


def made_effect(device, entries, seats, shift):
    """The effect of the rows with some entries, seats and shift."""
    need_small_yes(device)
    check_three(device, entries, seats, shift)
    homes = home_hours(device)
    seat_at = {(homes[state].number, homes[state].by_state[state]): state for state in seats}
    told = dict(zip(outsiders(device), entries))
    stairs = [hours.stair for hours in device_hours(device)]
    ends = []
    for state in range(device.states):
        number, hour = told[state] if state in told else (homes[state].number, homes[state].by_state[state])
        ends.append(seat_at[(number, stair_rest(stairs[number], added(hour, shift)))])
    return tuple(ends)


def made_row(device, entries, seats, shift):
    """Pieces of some row with some entries, seats and shift."""
    need_small_yes(device)
    check_three(device, entries, seats, shift)
    first = entry_rows(device)[entries]
    last = seat_rows(device)[seats]
    # the first row settles the entries and the last one the seats, whatever stands between
    lack = [number - less for number, less in zip(shift, counts_of(device.signals, first + last))]
    between = list(zip(device.signals, stair_rest(joint_stair(device), lack)))
    pieces = [(first, 1)] + between + [(last, 1)]
    return tuple([(word, times) for word, times in pieces if word != "" and times > 0])

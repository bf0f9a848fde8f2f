"""Hours of closed districts: what counts of signals tell of states."""

from backinstep.basics import (
    are_integers, check_signal, check_state, is_integer, is_number_to, is_row, is_sequence, is_sequence_of,
)
from backinstep.devices import check_counts, counts_of, row_end
from backinstep.errors import PaperFault, Refused
from backinstep.stairs import all_rests, in_stair, is_stair, laid_rows, stair_of, stair_rest, stair_size
from backinstep.webs import first_rows, state_moves, web_districts


class Hours:
    """The hours of one closed district of a device."""

    def __init__(self, device, number):
        districts = web_districts(device)
        if not is_number_to(number, 0, len(districts) - 1):
            raise Refused(number)
        self.device = device
        self.number = number
        self.district = districts[number]
        self.root = self.district[0]
        moves = state_moves(device)
        rows = first_rows(self.root, lambda state: moves[state])
        self.walks = tuple([rows[state] for state in self.district])
        self.counts = {state: counts_of(device.signals, rows[state]) for state in self.district}
        sums = sorted(set([told for _, _, told in step_sums(device, self.counts)]))
        self.stair = stair_of(len(device.signals), sums)
        self.size = stair_size(self.stair)
        self.by_state = {state: stair_rest(self.stair, self.counts[state]) for state in self.district}

    def __eq__(self, other):
        return isinstance(other, Hours) and self.device == other.device and self.number == other.number

    def hour_at(self, state):
        """The hour of a state of the district."""
        check_state(self.device, state)
        if state not in self.by_state:
            raise Refused(state)
        return self.by_state[state]

    def states_at(self, hour):
        """The states with an hour, ascending; none for a vector that is no hour."""
        if not are_integers(hour, len(self.stair)):
            return ()
        return tuple([state for state in self.district if self.by_state[state] == tuple(hour)])

    def moved_hour(self, hour, counts):
        """The hour to which rows with some counts lead an hour."""
        told = check_counts(self.device, counts)
        return stair_rest(self.stair, added(hour, told))

    def is_kept(self, counts):
        """Whether rows with some counts lead each hour to itself."""
        return in_stair(self.stair, check_counts(self.device, counts))

    def turns_of(self, counts):
        """The least times from 1 on that a row with some counts must be said until each hour is kept."""
        moved = stair_rest(self.stair, check_counts(self.device, counts))
        rest = moved
        times = 1
        while any(rest):
            rest = stair_rest(self.stair, added(rest, moved))
            times += 1
        return times

    def hours_list(self):
        """All hours, ascending."""
        return all_rests(self.stair)


def added(one, other):
    """The sum of two vectors."""
    return tuple([number + more for number, more in zip(one, other)])


def step_sums(device, counts):
    """All (state, signal, step sum) by the counts of the walks to some states that signals keep within."""
    sums = []
    for state, walked in counts.items():
        for index, sign in enumerate(device.signals):
            goal = counts[device.tables[index][state]]
            told = [number - less for number, less in zip(walked, goal)]
            told[index] += 1
            sums.append((state, sign, tuple(told)))
    return sums


def step_sum(hours, state, signal):
    """The counts of the walk to a state and a signal, less those of the walk to the state behind it."""
    hours.hour_at(state)
    check_signal(hours.device, signal)
    sums = step_sums(hours.device, hours.counts)
    return [told for place, sign, told in sums if place == state and sign == signal][0]


def device_hours(device):
    """The hours of all closed districts."""
    return tuple([Hours(device, number) for number in range(len(web_districts(device)))])


def hour_total(device):
    """How many hours all closed districts have together."""
    return sum([hours.size for hours in device_hours(device)])


def hour_name(device, state):
    """The number of a state's district and its hour, None for an outsider."""
    check_state(device, state)
    for hours in device_hours(device):
        if state in hours.district:
            return hours.number, hours.hour_at(state)
    return None


def like_pairs(device):
    """The pairs of states of one district and one hour, ascending."""
    pairs = []
    for hours in device_hours(device):
        for one in hours.district:
            for other in hours.states_at(hours.hour_at(one)):
                if one < other:
                    pairs.append((one, other))
    return tuple(sorted(pairs))


def hours_paper(device):
    """The paper of the hours: for each closed district what shows its staircase."""
    return "hours", tuple([hours_entry(hours) for hours in device_hours(device)])


def hours_entry(hours):
    """The entry of a district: itself, walks, staircase, and the step sums that make its rows."""
    width = len(hours.stair)
    firsts = {}
    for state, sign, told in step_sums(hours.device, hours.counts):
        if told not in firsts:
            firsts[told] = (state, sign)
    # behind each vector stands which one it is, so that the rows tell of how many of each they are made
    many = len(firsts)
    vectors = [list(told) + [0] * at + [1] + [0] * (many - at - 1) for at, told in enumerate(firsts)]
    places = list(firsts.values())
    shares = []
    for row in laid_rows(width, vectors):
        told = [(place, times) for place, times in zip(places, row[width:]) if times != 0]
        shares.append(tuple(sorted([(state, sign, times) for (state, sign), times in told])))
    return hours.district, hours.walks, hours.stair, tuple(shares)


def check_hours(device, value):
    """Raise PaperFault for any value that is no paper of the hours: 0, or the number of the wrong entry from 1 on."""
    districts = web_districts(device)
    if not is_sequence_of(value, 2) or value[0] != "hours" or not is_sequence_of(value[1], len(districts)):
        raise PaperFault(0)
    for at, entry in enumerate(value[1]):
        if not is_entry(device, districts[at], entry):
            raise PaperFault(at + 1)


def hours_holds(device, value):
    """Whether any value is a paper of the hours."""
    try:
        check_hours(device, value)
    except PaperFault:
        return False
    return True


def is_entry(device, district, value):
    """Whether any value is the entry of a district."""
    if not is_sequence_of(value, 4):
        return False
    told, walks, stair, shares = value
    if not are_integers(told, len(district)) or tuple(told) != district:
        return False
    if not are_walks(device, district, walks):
        return False
    width = len(device.signals)
    if not is_stair(stair) or len(stair) != width or not is_sequence_of(shares, width):
        return False
    counts = {state: counts_of(device.signals, walk) for state, walk in zip(district, walks)}
    sums = {(state, sign): told_sum for state, sign, told_sum in step_sums(device, counts)}
    if not all([in_stair(stair, told_sum) for told_sum in sums.values()]):
        return False
    return all([is_share(share, row, sums) for share, row in zip(shares, stair)])


def are_walks(device, district, value):
    """Whether any value tells by state of a district a row from its least state to it."""
    if not is_sequence_of(value, len(district)) or not all([is_row(device, walk) for walk in value]):
        return False
    return all([row_end(device, district[0], walk) == state for state, walk in zip(district, value)])


def is_share(value, row, sums):
    """Whether any value is triples (state, signal, times) of step sums that make a row."""
    if not is_sequence(value):
        return False
    made = [0] * len(row)
    for triple in value:
        if not is_triple(triple, sums):
            return False
        state, sign, times = triple
        made = [number + times * more for number, more in zip(made, sums[(state, sign)])]
    return made == list(row)


def is_triple(value, sums):
    """Whether any value is a triple of a state and a signal that have a step sum, and an integer."""
    if not is_sequence_of(value, 3):
        return False
    state, sign, times = value
    if not is_integer(state) or not isinstance(sign, str) or not is_integer(times):
        return False
    return (state, sign) in sums

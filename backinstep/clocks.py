"""The clocks of a device told yes: what rounds do to the hours of all its closed districts at once."""

from math import lcm

from backinstep.basics import check_number, check_row, lies_in
from backinstep.devices import check_counts, counts_of
from backinstep.entries import joint_stair
from backinstep.errors import Refused, TooGreat
from backinstep.families import led_from
from backinstep.hours import added, device_hours
from backinstep.stairs import both_stair, in_stair, stair_rest, stair_size
from backinstep.verdicts import need_yes
from backinstep.webs import first_rows, web_districts

MOST_JOINT = 60


class Clocks:
    """The joint hours of a device told yes."""

    def __init__(self, device):
        need_yes(device)
        self.joint = joint_stair(device)
        if stair_size(self.joint) > MOST_JOINT:
            raise TooGreat(MOST_JOINT)
        self.device = device
        self.stairs = tuple([hours.stair for hours in device_hours(device)])
        self.districts = web_districts(device)
        self.district_hours = tuple([stair_size(stair) for stair in self.stairs])
        rows = self.rest_rows()
        self.numbers = {rest: number for number, rest in enumerate(rows)}
        self.rests = tuple(rows)
        self.joint_rows = tuple(rows.values())
        self.joint_many = len(self.rests)
        self.joint_tables = tuple([
            tuple([self.numbers[self.rest_behind(rest, sign)] for rest in self.rests]) for sign in device.signals])
        self.homes = tuple([self.kept_by(rest) for rest in self.rests])

    def rest_behind(self, rest, sign):
        """The rest of counts with one signal more."""
        return stair_rest(self.joint, added(rest, counts_of(self.device.signals, sign)))

    def rest_rows(self):
        """By rest of counts the first row that has it, in the order of these rows."""
        signals = self.device.signals
        start = tuple([0] * len(signals))
        return first_rows(start, lambda rest: [(sign, self.rest_behind(rest, sign)) for sign in signals])

    def kept_by(self, rest):
        """The numbers of the districts whose hour counts with a rest do not move."""
        return tuple([number for number, stair in enumerate(self.stairs) if in_stair(stair, rest)])

    def check_hour(self, hour):
        """Raise Refused for any value that is no number of a joint hour."""
        check_number(hour, 0, self.joint_many - 1)

    def joint_after(self, hour, row):
        """The joint hour to which a row leads one."""
        self.check_hour(hour)
        check_row(self.device, row)
        for sign in row:
            hour = self.joint_tables[self.device.signals.index(sign)][hour]
        return hour

    def joint_of(self, counts):
        """The joint hour of counts."""
        return self.numbers[stair_rest(self.joint, check_counts(self.device, counts))]

    def home(self, hour):
        """The numbers of the districts whose hour is not moved."""
        self.check_hour(hour)
        return self.homes[hour]

    def alone(self, hour):
        """How many states each round with a joint hour leaves alone."""
        return sum([self.district_hours[number] for number in self.home(hour)])

    def left_by_counts(self, counts):
        """How many states each round with these counts leaves alone."""
        hour = self.joint_of(counts)
        if 0 in counts:
            raise Refused(counts)
        return self.alone(hour)

    def left_places(self, row):
        """The states that a round leaves alone."""
        check_row(self.device, row)
        if not lies_in(self.device.signals, row):
            raise Refused(row)
        return self.device.left_alone(row)

    def alone_numbers(self):
        """By number how many joint hours leave just so many states alone, ascending."""
        numbers = {}
        for hour in range(self.joint_many):
            numbers[self.alone(hour)] = numbers.get(self.alone(hour), 0) + 1
        return tuple(sorted(list(numbers.items())))

    def district_meet(self, one, other):
        """Into how many closed districts the pairs of states of two districts fall that hear the same rows."""
        check_number(one, 0, len(self.districts) - 1)
        check_number(other, 0, len(self.districts) - 1)
        together = stair_size(both_stair(self.stairs[one], self.stairs[other]))
        return self.district_hours[one] * self.district_hours[other] // together

    def hour_period(self, hour):
        """The least times from 1 on that a row with a joint hour must be said to have the joint hour 0."""
        self.check_hour(hour)
        moved = hour
        times = 1
        while moved != 0:
            moved = self.joint_after(moved, self.joint_rows[hour])
            times += 1
        return times

    def whole_period(self):
        """The least times from 1 on that leads all rows to the joint hour 0."""
        period = 1
        for hour in range(self.joint_many):
            period = lcm(period, self.hour_period(hour))
        return period

    def same_beat(self):
        """The joint hours that come of 0 if signals are exchanged for other ones."""
        backs = [{goal: hour for hour, goal in enumerate(table)} for table in self.joint_tables]
        return tuple(sorted(led_from(
            lambda hour: [(0, table[back[hour]]) for back in backs for table in self.joint_tables], [0])))

    def beats(self):
        """How many unlike remainders of lengths joint hours tell."""
        return self.joint_many // len(self.same_beat())

    def beat_of(self, hour):
        """The remainder by the beats of the length of each row with a joint hour."""
        self.check_hour(hour)
        return len(self.joint_rows[hour]) % self.beats()

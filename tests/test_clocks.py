"""The clocks of devices told yes: points [48] to [51]."""

import itertools
import unittest

from backinstep.clocks import Clocks
from backinstep.devices import Device
from backinstep.errors import BadCounts, BadRow, NotYes, Refused, TooGreat
from backinstep.hours import device_hours
from backinstep.stairs import stair_rest
from backinstep.verdicts import is_yes, wrong_knots
from backinstep.webs import web_districts
from tests.plain import CLOCKS, Case, Draw, any_values, is_tupled, rows_to, small_devices, two_clocks
from tests.test_entries import outer, yes_devices

TOLD = Device([(1, 0, 3, 4, 2, 0), (0, 1, 3, 4, 2, 2)])
TWIST = Device([(0, 1, 0, 1), (2, 3, 3, 2)])


def many_clocks(*moduli):
    """The device of several clocks side by side, moved by as many signals, each its own one."""
    tables = [[] for _ in moduli]
    for at, modulus in enumerate(moduli):
        start = sum(moduli[:at])
        for index, table in enumerate(tables):
            table += [start + (state + (index == at)) % modulus for state in range(modulus)]
    return Device(tables)


def clocked_devices(seed, many=30):
    draw = Draw(seed)
    devices = yes_devices(seed, many) + [clock for clock in CLOCKS]
    devices += [TOLD, many_clocks(2, 3), many_clocks(2, 2, 3), many_clocks(2, 2), Device([[0]]), Device([[0, 0, 1]] * 2)]
    for clock in (many_clocks(2, 3), many_clocks(3, 3), many_clocks(1, 2, 2)):
        for _ in range(3):
            made = outer(clock, draw, 2)
            if is_yes(made):
                devices.append(made)
    return devices


def rests_of(device, counts):
    """By district the rest of counts."""
    return tuple(stair_rest(hours.stair, counts) for hours in device_hours(device))


def counts_of(device, row):
    return tuple(row.count(sign) for sign in device.signals)


class ClocksTest(Case):

    def test_told_example(self):
        clocks = Clocks(TOLD)
        self.assertEqual(clocks.districts, ((0, 1), (2, 3, 4)))
        self.assertEqual(clocks.joint_rows, ("", "a", "b", "aa", "ab", "aaa"))
        self.assertEqual((clocks.alone_numbers(), clocks.beats()), (((0, 2), (2, 2), (3, 1), (5, 1)), 3))
        self.assertEqual(clocks.left_by_counts((3, 3)), 3)
        self.assertEqual((clocks.left_places("ababab"), clocks.joint_of((10 ** 18, 1))), ((2, 3, 4), 3))

    def test_joint_hours(self):
        for device in clocked_devices(301):
            clocks = Clocks(device=device)
            self.assertEqual(clocks.device, device)
            self.assertEqual(clocks.districts, web_districts(device))
            self.assertEqual(clocks.district_hours, tuple(hours.size for hours in device_hours(device)))
            firsts = {}
            for row in rows_to(device.signals, max(map(len, clocks.joint_rows)) + 1):
                firsts.setdefault(rests_of(device, counts_of(device, row)), row)
            self.assertEqual(clocks.joint_rows, tuple(firsts.values()))
            self.assertEqual(clocks.joint_many, len(firsts))
            numbers = {rests: number for number, rests in enumerate(firsts)}
            self.assertEqual(len(clocks.joint_tables), len(device.signals))
            self.assertTrue(is_tupled((clocks.districts, clocks.district_hours, clocks.joint_rows, clocks.joint_tables)))
            for number, row in enumerate(clocks.joint_rows):
                for sign, table in zip(device.signals, clocks.joint_tables):
                    self.assertEqual(table[number], numbers[rests_of(device, counts_of(device, row + sign))])
                for more in ("", "a", device.signals[-1] * 3 + "a"):
                    goal = numbers[rests_of(device, counts_of(device, row + more))]
                    self.assertEqual(clocks.joint_after(hour=number, row=more), goal)
                    self.assertEqual(clocks.joint_of(counts=list(counts_of(device, row + more))), goal)

    def test_alone(self):
        for device in clocked_devices(302):
            clocks = Clocks(device)
            hours = device_hours(device)
            numbers = {}
            for number, row in enumerate(clocks.joint_rows):
                home = tuple(told.number for told in hours if told.is_kept(counts_of(device, row)))
                self.assertEqual(clocks.home(hour=number), home)
                alone = sum(hours[at].size for at in home)
                self.assertEqual(clocks.alone(hour=number), alone)
                numbers[alone] = numbers.get(alone, 0) + 1
            self.assertEqual(clocks.alone_numbers(), tuple(sorted(numbers.items())))
            self.assertEqual(sum(alone * many for alone, many in numbers.items()), clocks.joint_many * len(hours))

    def test_rounds(self):
        for device in clocked_devices(303):
            clocks = Clocks(device)
            for row in rows_to(device.signals, 6 if len(device.signals) < 4 else 4):
                if set(row) == set(device.signals):
                    left = clocks.left_places(row=row)
                    self.assertEqual(left, device.left_alone(row))
                    self.assertEqual(len(left), clocks.alone(clocks.joint_after(0, row)))
                    self.assertEqual(clocks.left_by_counts(counts=counts_of(device, row)), len(left))
                    home = clocks.home(clocks.joint_after(0, row))
                    kept = [state for number in home for state in clocks.districts[number]]
                    for_ever = device.places(row * (device.states * 2))
                    self.assertEqual(left, tuple(state for state in for_ever if state in kept))
                else:
                    self.refuses(Refused, row, clocks.left_places, row)

    def test_great_counts(self):
        clocks = Clocks(TOLD)
        for counts in itertools.product((1, 2, 6 * 10 ** 17, 10 ** 18 - 1, 10 ** 18), repeat=2):
            told = tuple(count % 6 + 6 for count in counts)
            self.assertEqual(clocks.joint_of(counts), clocks.joint_of(told))
            self.assertEqual(clocks.left_by_counts(counts), clocks.left_by_counts(told))

    def test_district_meet(self):
        for device in clocked_devices(304):
            clocks = Clocks(device)
            meets = 0
            for one, other in itertools.product(range(len(clocks.districts)), repeat=2):
                pairs = list(itertools.product(clocks.districts[one], clocks.districts[other]))
                goals = {pair: [(table[pair[0]], table[pair[1]]) for table in device.tables] for pair in pairs}
                ahead = {pair: self.led(goals, pair) for pair in pairs}
                closed = {frozenset(ahead[pair]) for pair in pairs if all(pair in ahead[goal] for goal in ahead[pair])}
                self.assertEqual(clocks.district_meet(one=one, other=other), len(closed))
                meets += len(closed)
            squares = sum(number ** 2 * many for number, many in clocks.alone_numbers())
            self.assertEqual(squares, clocks.joint_many * meets)

    def led(self, goals, start):
        found = [start]
        for pair in found:
            found += [goal for goal in dict.fromkeys(goals[pair]) if goal not in found]
        return found

    def test_periods_and_beats(self):
        for device in clocked_devices(305):
            clocks = Clocks(device)
            periods = []
            for hour, row in enumerate(clocks.joint_rows):
                periods.append(min(times for times in range(1, 61) if clocks.joint_after(0, row * times) == 0))
                self.assertEqual(clocks.hour_period(hour=hour), periods[-1])
            whole = min(times for times in range(1, 10000) if all(times % period == 0 for period in periods))
            self.assertEqual(clocks.whole_period(), whole)
            same = {0}
            for _ in range(clocks.joint_many):
                for hour in list(same):
                    backs = [at for table in clocks.joint_tables for at in range(clocks.joint_many) if table[at] == hour]
                    same |= {table[at] for table in clocks.joint_tables for at in backs}
            self.assertEqual(clocks.same_beat(), tuple(sorted(same)))
            self.assertEqual(clocks.beats() * len(same), clocks.joint_many)
            for row in rows_to(device.signals, 5 if len(device.signals) < 4 else 3):
                self.assertEqual(clocks.beat_of(hour=clocks.joint_after(0, row)), len(row) % clocks.beats())

    def test_too_great(self):
        self.assertEqual(Clocks(many_clocks(3, 4, 5)).joint_many, 60)
        self.refuses(TooGreat, 60, Clocks, many_clocks(3, 3, 7))
        self.refuses(TooGreat, 60, Clocks, many_clocks(8, 8))
        self.refuses(NotYes, wrong_knots(TWIST)[0][1][0], Clocks, TWIST)
        # an outsider that both signals can keep
        self.refuses(NotYes, 3, Clocks, Device([(0, 0, 0, 4, 3), (0, 0, 0, 3, 0)]))
        # told no goes before too great
        mixed = many_clocks(8, 8).tables
        self.refuses(NotYes, (16, 17), Clocks, Device([mixed[0] + (17, 16, 18), mixed[1] + (16, 18, 17)]))
        wide = [Device([[(state + weight) % 60 for state in range(60)] for weight in (1, 7)]), two_clocks(6, 10, (1, 1), (2, 3))]
        for device in wide:
            clocks = Clocks(device)
            self.assertEqual((clocks.joint_many, clocks.alone(0)), (clocks.district_hours[0], clocks.district_hours[0]))

    def test_wrong_values(self):
        clocks = Clocks(TOLD)
        for value in any_values():
            if type(value) is not int or not 0 <= value < 6:
                for call in (clocks.home, clocks.alone, clocks.hour_period, clocks.beat_of):
                    self.refuses(Refused, value, call, value)
                self.refuses(Refused, value, clocks.joint_after, value, None)
            if type(value) is not int or not 0 <= value < 2:
                self.refuses(Refused, value, clocks.district_meet, value, None)
                self.refuses(Refused, value, clocks.district_meet, 1, value)
            if not isinstance(value, str):
                self.refuses(BadRow, -1, clocks.joint_after, 0, value)
                self.refuses(BadRow, -1, clocks.left_places, value)
            for call in (clocks.joint_of, clocks.left_by_counts):
                if not isinstance(value, (list, tuple)) or len(value) != 2:
                    self.refuses(BadCounts, -1, call, value)
                if type(value) is not int or not 0 <= value <= 10 ** 18:
                    self.refuses(BadCounts, 0, call, (value, 0))
                    self.refuses(BadCounts, 1, call, [0, value])
        for counts in ((0, 1), [1, 0], (0, 0)):
            self.refuses(Refused, counts, clocks.left_by_counts, counts)
        self.refuses(BadRow, 0, clocks.left_places, "cab")
        self.refuses(BadRow, 10000, clocks.joint_after, 0, "ab" * 5001)
        self.refuses(Refused, "aa", clocks.left_places, "aa")
        self.assertEqual(clocks.joint_after(0, "ab" * 5000), clocks.joint_of((5000, 5000)))


if __name__ == "__main__":
    unittest.main()

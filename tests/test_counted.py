"""Rounds counted, the first and the n-th one: points [52] to [55]."""

import itertools
import math
import unittest

from backinstep.clocks import Clocks
from backinstep.counted import (
    first_leaving, first_round, hours_at, limit_share, nth_round, place_of_round, rounds_by_hour, rounds_leaving,
    rounds_of_counts, settled_length, total_left,
)
from backinstep.devices import Device
from backinstep.errors import BadCounts, BadRow, Refused, TooGreat
from tests.plain import CLOCKS, Case, any_values, same, small_devices
from tests.test_clocks import TOLD, clocked_devices, many_clocks

HUGE = 10 ** 18


def rounds_of(device, length):
    """All rounds of a length, as strings in ascending order."""
    rows = ("".join(signs) for signs in itertools.product(device.signals, repeat=length))
    return [row for row in rows if set(row) == set(device.signals)]


def told_clocks(seed):
    return [Clocks(device) for device in clocked_devices(seed, 20)]


def lengths_of(clocks):
    return range({1: 9, 2: 8, 3: 6, 4: 5, 5: 5}[len(clocks.device.signals)] + 1)


class CountedTest(Case):

    def test_told_example(self):
        clocks = Clocks(TOLD)
        self.assertEqual((rounds_by_hour(clocks, 3), total_left(TOLD, 3), settled_length(clocks)), ((3, 0, 0, 0, 0, 3), 24, 3))
        self.assertEqual((first_leaving(clocks, 2), nth_round(clocks, 4, 2, 3)), ("aabb", "baab"))

    def test_rounds_of_counts(self):
        for signals in (1, 2, 3):
            device = Device([[0, 1]] * signals)
            for counts in itertools.product(range(1, 4), repeat=signals):
                row = "".join(sign * many for sign, many in zip(device.signals, counts))
                told = len(set(itertools.permutations(row)))
                self.assertEqual(rounds_of_counts(device=device, counts=list(counts)), told)
        two = Device([[0, 1, 1]] * 2)
        self.assertEqual(rounds_of_counts(two, (300, 300)), math.comb(600, 300))
        self.refuses(TooGreat, 600, rounds_of_counts, two, (300, 301))
        self.refuses(TooGreat, 600, rounds_of_counts, two, (HUGE, HUGE))
        for counts in ((0, 1), [5, 0], (0, HUGE)):
            self.refuses(Refused, counts, rounds_of_counts, two, counts)
        for value in any_values():
            if not isinstance(value, (list, tuple)) or len(value) != 2:
                self.refuses(BadCounts, -1, rounds_of_counts, two, value)
            if type(value) is not int or not 0 <= value <= HUGE:
                self.refuses(BadCounts, 1, rounds_of_counts, two, [0, value])

    def test_by_hour_and_number(self):
        for clocks in told_clocks(311):
            for length in lengths_of(clocks):
                hours = [0] * clocks.joint_many
                numbers = {}
                for row in rounds_of(clocks.device, length):
                    hour = clocks.joint_after(0, row)
                    hours[hour] += 1
                    numbers[clocks.alone(hour)] = numbers.get(clocks.alone(hour), 0) + 1
                self.assertEqual(rounds_by_hour(clocks=clocks, length=length), tuple(hours))
                self.assertEqual(rounds_by_hour(clocks, length, modulus=7), tuple(many % 7 for many in hours))
                for number in range(clocks.device.states + 2):
                    told = numbers.get(number, 0)
                    self.assertEqual(rounds_leaving(clocks=clocks, length=length, number=number), told)
                    self.assertEqual(rounds_leaving(clocks, length, number, modulus=2), told % 2)
                self.assertEqual(rounds_leaving(clocks, length, 10 ** 40), 0)

    def test_total_left(self):
        for device in small_devices(312, 40) + small_devices(313, 4, 8, 2):
            for length in range(7 if len(device.signals) == 3 else 8):
                total = sum(len(device.left_alone(row)) for row in rounds_of(device, length))
                self.assertEqual(total_left(device=device, length=length), total)
                self.assertEqual(total_left(device, length, modulus=5), total % 5)
        for clocks in told_clocks(314):
            for length in (0, 1, 5, 60, 61, 600, 601, HUGE):
                modulus = 10 ** 9 + 7 if length > 600 else None
                numbers = [number for number, _ in clocks.alone_numbers()]
                if length in (600, HUGE) and clocks.joint_many > 9:
                    continue
                told = sum(number * rounds_leaving(clocks, length, number, modulus=modulus) for number in numbers)
                self.assertEqual(total_left(clocks.device, length, modulus=modulus), told % modulus if modulus else told)

    def test_great_lengths(self):
        clocks = Clocks(many_clocks(2, 3))
        exact = rounds_by_hour(clocks, 600)
        self.assertEqual(sum(exact), 2 ** 600 - 2)
        for modulus in (2, 10 ** 9 + 7, HUGE):
            self.assertEqual(rounds_by_hour(clocks, 600, modulus=modulus), tuple(many % modulus for many in exact))
        for length in (601, 10 ** 6, HUGE - 1, HUGE):
            told = rounds_by_hour(clocks, length, modulus=HUGE)
            self.assertEqual(sum(told) % HUGE, (pow(2, length, HUGE) - 2) % HUGE)
            self.assertTrue(all(0 <= many < HUGE for many in told))
            # no length has all rests by two and by three with unlike chances but by the lesser powers
            for number in range(7):
                hours = [many for hour, many in enumerate(told) if clocks.alone(hour) == number]
                self.assertEqual(rounds_leaving(clocks, length, number, modulus=HUGE), sum(hours) % HUGE)
        single = Clocks(Device([[1, 2, 0]]))
        self.assertEqual(rounds_by_hour(single, HUGE, modulus=2), (0, 1, 0))
        self.assertEqual((rounds_leaving(single, HUGE, 0, modulus=HUGE), rounds_leaving(single, HUGE, 3, modulus=2)), (1, 0))
        widest = Clocks(many_clocks(3, 4, 5))
        self.assertEqual(sum(rounds_by_hour(widest, HUGE, modulus=97)) % 97, (pow(3, HUGE, 97) - 3 * pow(2, HUGE, 97) + 3) % 97)

    def test_wrong_values(self):
        clocks = Clocks(TOLD)
        nine = Device([list(range(9))])
        for value in any_values():
            if type(value) is not int or not 0 <= value <= HUGE:
                self.refuses(Refused, value, rounds_by_hour, clocks, value, modulus=0)
                self.refuses(Refused, value, rounds_leaving, clocks, value, None, modulus=0)
                self.refuses(Refused, value, total_left, nine, value, modulus=0)
                self.refuses(Refused, value, hours_at, clocks, value)
                self.refuses(Refused, value, limit_share, clocks, value, None)
                self.refuses(Refused, value, nth_round, clocks, value, None, None)
            if type(value) is not int or value < 0:
                self.refuses(Refused, value, rounds_leaving, clocks, 601, value, modulus=0)
                self.refuses(Refused, value, first_leaving, clocks, value)
                self.refuses(Refused, value, limit_share, clocks, HUGE, value)
                self.refuses(Refused, value, nth_round, clocks, 61, value, None)
                self.refuses(Refused, value, nth_round, clocks, 61, 0, value)
                self.refuses(Refused, value, nth_round, clocks, 6, 0, value)
            if value is not None and (type(value) is not int or not 2 <= value <= HUGE):
                self.refuses(Refused, value, rounds_by_hour, clocks, 601, modulus=value)
                self.refuses(Refused, value, rounds_leaving, clocks, 601, 3, modulus=value)
                self.refuses(Refused, value, total_left, nine, 601, modulus=value)
            if type(value) is not int or not 0 <= value < 6:
                self.refuses(Refused, value, first_round, clocks, value)
            if not isinstance(value, str):
                self.refuses(BadRow, -1, place_of_round, clocks, value)
        for length in (601, HUGE):
            self.refuses(TooGreat, 600, rounds_by_hour, clocks, length)
            self.refuses(TooGreat, 600, rounds_leaving, clocks, length, 3, modulus=None)
            self.refuses(TooGreat, 600, total_left, nine, length)
        self.refuses(TooGreat, 8, total_left, nine, 3)
        self.refuses(TooGreat, 8, total_left, nine, 601, modulus=2)
        with self.assertRaises(TypeError):
            rounds_by_hour(clocks, 3, 7)


class FirstTest(Case):

    def test_first_rounds(self):
        for clocks in told_clocks(315):
            first, leaving = {}, {}
            length = 0
            while len(first) < clocks.joint_many and length < 9:
                for row in rounds_of(clocks.device, length):
                    hour = clocks.joint_after(0, row)
                    first.setdefault(hour, row)
                    leaving.setdefault(clocks.alone(hour), row)
                length += 1
            for hour in range(clocks.joint_many):
                told = first_round(clocks=clocks, hour=hour)
                self.assertEqual(first.get(hour, told), told)
                self.assertEqual((set(told), clocks.joint_after(0, told)), (set(clocks.device.signals), hour))
            for number in range(clocks.device.states + 2):
                told = first_leaving(clocks=clocks, number=number)
                self.assertEqual(told is None, number not in dict(clocks.alone_numbers()))
                if number in leaving:
                    self.assertEqual(told, leaving[number])

    def test_hours_at(self):
        for clocks in told_clocks(316):
            settled = settled_length(clocks=clocks)
            signals = len(clocks.device.signals)
            self.assertLessEqual(settled, signals + len(clocks.same_beat()) - 1)
            self.assertGreaterEqual(settled, signals)
            layers = [{clocks.joint_after(0, clocks.device.signals)}]
            for _ in range(80):
                layers.append({table[hour] for table in clocks.joint_tables for hour in layers[-1]})
            before = 0
            for length in range(signals + 70):
                told = tuple(sorted(layers[length - signals])) if length >= signals else ()
                self.assertEqual(hours_at(clocks=clocks, length=length), told)
                whole = [hour for hour in range(clocks.joint_many) if clocks.beat_of(hour) == length % clocks.beats()]
                filled = [length >= signals and len(layers[at - signals]) == len(whole) for at in range(length, length + 5)]
                self.assertEqual(length >= settled, all(filled))
                if signals <= length <= settled:
                    self.assertGreater(len(told), before)
                before = len(told)
            for length in (HUGE, HUGE - 1, 10 ** 17 + 3):
                told = tuple(hour for hour in range(clocks.joint_many) if clocks.beat_of(hour) == length % clocks.beats())
                self.assertEqual(hours_at(clocks, length), told)

    def test_limit_share(self):
        for clocks in told_clocks(317):
            for length in (0, 1, 2, 3, 7, 60, HUGE):
                hours = [hour for hour in range(clocks.joint_many) if clocks.beat_of(hour) == length % clocks.beats()]
                tops = 0
                for number in range(clocks.device.states + 2):
                    top, bottom = limit_share(clocks=clocks, length=length, number=number)
                    fits = [hour for hour in hours if clocks.alone(hour) == number]
                    self.assertEqual((top * len(hours), math.gcd(top, bottom)), (len(fits) * bottom, 1))
                    self.assertTrue(fits or (top, bottom) == (0, 1))
                    tops += len(fits)
                self.assertEqual(tops, len(hours))
        self.assertTrue(same(limit_share(Clocks(Device([[0]])), 0, 1), (1, 1)))


class ListedTest(Case):

    def test_all_places(self):
        for clocks in told_clocks(318)[::2]:
            for length in lengths_of(clocks):
                by_number = {}
                for row in rounds_of(clocks.device, length):
                    by_number.setdefault(len(clocks.device.left_alone(row)), []).append(row)
                for number, rows in by_number.items():
                    for place in {0, 1, len(rows) // 2, len(rows) - 1} & set(range(len(rows))):
                        told = nth_round(clocks=clocks, length=length, number=number, place=place)
                        self.assertEqual(told, rows[place])
                        self.assertEqual(place_of_round(clocks=clocks, row=told), (number, place))
                for number in range(clocks.device.states + 1):
                    many = len(by_number.get(number, ()))
                    self.refuses(Refused, many, nth_round, clocks, length, number, many)
                    self.refuses(Refused, HUGE * HUGE, nth_round, clocks, length, number, HUGE * HUGE)

    def test_long(self):
        for clocks in (Clocks(TOLD), Clocks(many_clocks(2, 2, 3)), Clocks(CLOCKS[0]), Clocks(many_clocks(3, 4, 5))):
            number = clocks.alone_numbers()[-1][0]
            many = rounds_leaving(clocks, 60, number)
            for place in {0, many // 3, many - 1}:
                if 0 <= place < many:
                    row = nth_round(clocks, 60, number, place)
                    self.assertEqual(len(row), 60)
                    self.assertEqual(place_of_round(clocks, row), (number, place))
            self.refuses(Refused, many, nth_round, clocks, 60, number, many)
            self.refuses(TooGreat, 60, nth_round, clocks, 61, number, 0)
            self.refuses(TooGreat, 60, nth_round, clocks, HUGE, number, HUGE)
            row = clocks.device.signals * 61
            self.refuses(TooGreat, 60, place_of_round, clocks, row[:61])
        clocks = Clocks(TOLD)
        self.refuses(Refused, "a" * 100, place_of_round, clocks, "a" * 100)
        self.refuses(Refused, "", place_of_round, clocks, "")
        self.refuses(BadRow, 2, place_of_round, clocks, "abc" * 100)
        self.refuses(Refused, 0, nth_round, clocks, 1, 5, 0)


if __name__ == "__main__":
    unittest.main()

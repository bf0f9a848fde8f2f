"""Rows with told counts: point [19]."""

import itertools
import unittest

from backinstep.devices import Device, check_pieces, pieces_counts, pieces_effect, pieces_length, row_counts
from backinstep.errors import BadCounts, NoState, Refused, TooGreat
from backinstep.hours import Hours, device_hours
from backinstep.strides import enough_number, few_walk, great_walk, least_rings
from tests.plain import CLOCKS, Case, Draw, any_values, end_of, is_tupled, small_devices

TOLD = Hours(Device([(1, 2, 3, 0), (1, 0, 1, 0)]), 0)
TWO = Hours(Device([(1, 0, 3, 4, 2, 0), (0, 1, 3, 4, 2, 2)]), 1)


def hours_of_devices(seed, many, states=4, signals=3):
    devices = CLOCKS + small_devices(seed, many, states, signals)
    return [hours for device in devices for hours in device_hours(device)]


def plain_walk(hours, one, other, counts):
    """The least row with some counts from one state to another, by looking at all such rows."""
    row = "".join(sign * count for sign, count in zip(hours.device.signals, counts))
    rows = sorted({"".join(signs) for signs in itertools.permutations(row)})
    fit = [row for row in rows if end_of(hours.device, one, row) == other]
    return fit[0] if fit else None


def spread(hours):
    many = len(hours.district)
    for length in least_rings(hours):
        many *= length
    return many // hours.size


class RingTest(Case):

    def test_least_rings(self):
        for hours in hours_of_devices(81, 60, states=6):
            rings = []
            for sign in hours.device.signals:
                times = 1
                while not any(end_of(hours.device, state, sign * times) == state for state in hours.district):
                    times += 1
                rings.append(times)
            self.assertEqual(least_rings(hours), tuple(rings))
            whole = len(hours.district)
            for length in rings:
                whole *= length
            self.assertEqual(whole % hours.size, 0)
            enough = len(rings) * (len(hours.district) - 1) + whole // hours.size
            self.assertEqual(enough_number(hours), enough)
        self.assertEqual((least_rings(TOLD), enough_number(hours=TOLD)), ((4, 2), 22))


class FewWalkTest(Case):

    def test_told_example(self):
        self.assertEqual(few_walk(TOLD, 0, 2, (2, 2)), "abba")

    def test_by_all_rows(self):
        draw = Draw(82)
        for hours in hours_of_devices(82, 40):
            width = len(hours.device.signals)
            for _ in range(6):
                counts = [draw.below(7 // width + 1) for _ in range(width)]
                for one, other in itertools.product(hours.district, repeat=2):
                    self.assertEqual(few_walk(hours, one, other, counts), plain_walk(hours, one, other, counts))

    def test_edges(self):
        self.assertEqual(few_walk(hours=TOLD, one=1, other=1, counts=(0, 0)), "")
        self.assertIsNone(few_walk(TOLD, 1, 2, [0, 0]))
        self.assertEqual(few_walk(TOLD, 0, 3, (19999, 0)), "a" * 19999)
        self.refuses(TooGreat, 20000, few_walk, TOLD, 0, 0, (20000, 0))
        self.assertEqual(few_walk(TOLD, 0, 0, (4, 3998))[-4:], "bbbb")
        self.refuses(TooGreat, 20000, few_walk, TOLD, 0, 0, (4, 4000))
        self.refuses(TooGreat, 20000, few_walk, TOLD, 0, 1, (10 ** 18, 10 ** 18))
        self.assertEqual(len(few_walk(TOLD, 0, 0, (4, 3998))), 4002)

    def test_great_counts(self):
        for hours in hours_of_devices(83, 40, states=8, signals=2):
            if len(hours.device.signals) > 2:
                continue
            counts = [140, 140][:len(hours.device.signals)]
            for one, other in itertools.product(hours.district, repeat=2):
                row = few_walk(hours, one, other, counts)
                if row is not None:
                    self.assertEqual(row_counts(hours.device, row), tuple(counts))
                    self.assertEqual(end_of(hours.device, one, row), other)
                if 140 >= enough_number(hours):
                    fits = hours.moved_hour(hours.hour_at(one), counts) == hours.hour_at(other)
                    self.assertEqual(row is not None, fits)


class GreatWalkTest(Case):

    def look(self, hours, one, other, counts):
        pieces = great_walk(hours, one, other, counts)
        fits = hours.moved_hour(hours.hour_at(one), counts) == hours.hour_at(other)
        self.assertEqual(pieces is not None, fits)
        if fits:
            self.assertEqual(check_pieces(hours.device, pieces), pieces)
            self.assertTrue(is_tupled(pieces))
            self.assertEqual(pieces_counts(hours.device, pieces), tuple(counts))
            self.assertEqual(pieces_effect(hours.device, pieces)[one], other)

    def test_from_enough_on(self):
        draw = Draw(84)
        for hours in hours_of_devices(84, 80, states=6, signals=4):
            width = len(hours.device.signals)
            if spread(hours) > 5000:
                continue
            enough = enough_number(hours)
            for size in (1, 3, 60, 10 ** 17):
                counts = [enough + draw.below(size) for _ in range(width)]
                for one, other in itertools.product(hours.district, repeat=2):
                    self.look(hours, one, other, counts)

    def test_greatest(self):
        self.look(TOLD, 0, 2, (5 * 10 ** 17, 5 * 10 ** 17))
        self.look(TOLD, 3, 3, (22, 10 ** 18 - 22))
        self.assertEqual(pieces_length(great_walk(TOLD, 3, 3, (22, 10 ** 18 - 22))), 10 ** 18)
        device = Device([[(state + 1) % 60 for state in range(60)], [(state + 59) % 60 for state in range(60)]])
        hours = Hours(device, 0)
        self.assertEqual(spread(hours), 3600)
        self.look(hours, 7, 53, (enough_number(hours), enough_number(hours) + 14))
        self.look(hours, 7, 53, (enough_number(hours), enough_number(hours) + 13))

    def test_just_not_too_great(self):
        device = Device([[(state + step) % 50 for state in range(50)] for step in (1, 1, 25)])
        hours = Hours(device, 0)
        self.assertEqual((spread(hours), enough_number(hours)), (5000, 5147))
        self.look(hours, 3, 6, (5147, 5152, 5148))
        self.look(hours, 3, 6, (5147, 5153, 5148))

    def test_too_great(self):
        device = Device([[(state + step) % 60 for state in range(60)] for step in (1, 7, 59)])
        hours = Hours(device, 0)
        self.refuses(TooGreat, 5000, great_walk, hours, 0, 0, (0, 0, 0))
        self.refuses(NoState, 60, great_walk, hours, 60, 0, (0, 0, 0))
        self.refuses(BadCounts, 2, great_walk, hours, 0, 0, (0, 0, -1))

    def test_less_than_enough(self):
        self.refuses(Refused, 0, great_walk, TOLD, 0, 1, (21, 21))
        self.refuses(Refused, 1, great_walk, TOLD, 0, 1, (22, 21))
        self.refuses(Refused, 0, great_walk, TOLD, 0, 0, (0, 22))
        self.assertIsNone(great_walk(hours=TOLD, one=0, other=1, counts=[22, 22]))
        self.look(TOLD, 0, 0, (22, 22))

    def test_wrong_values(self):
        for call in (few_walk, great_walk):
            for value in any_values():
                if type(value) is not int or not 0 <= value < 6:
                    self.refuses(NoState, value, call, TWO, value, None, None)
                    self.refuses(NoState, value, call, TWO, 2, value, None)
                if not isinstance(value, (list, tuple)) or len(value) != 2:
                    self.refuses(BadCounts, -1, call, TWO, 2, 3, value)
                if type(value) is not int or not 0 <= value <= 10 ** 18:
                    self.refuses(BadCounts, 1, call, TWO, 2, 3, (0, value))
            self.refuses(Refused, 0, call, TWO, 0, None, None)
            self.refuses(Refused, 5, call, TWO, 2, 5, None)
            self.refuses(Refused, 1, call, TWO, 1, 6, None)
            self.refuses(NoState, 6, call, TWO, 2, 6, None)


if __name__ == "__main__":
    unittest.main()

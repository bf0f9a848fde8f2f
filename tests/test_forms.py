"""Other names for states and signals: point [13]."""

import itertools
import math
import unittest

from backinstep.devices import Device
from backinstep.errors import BadDevice, NoSignal, Refused, TooGreat
from backinstep.forms import alike_names, doubled_signal, own_names, renamed_device, swapped_signals
from tests.plain import Case, Draw, any_values, is_tupled, rows_to, small_devices


def plain_alike(one, other):
    if one.states != other.states or one.signals != other.signals:
        return None
    for signs in itertools.permutations(one.signals):
        signals = "".join(signs)
        for names in itertools.permutations(range(one.states)):
            if renamed_device(swapped_signals(one, signals), names) == other:
                return names, signals
    return None


class FormTest(Case):

    def test_renamed(self):
        for device in small_devices(41, 30):
            for names in itertools.permutations(range(device.states)):
                renamed = renamed_device(device, list(names))
                for state in range(device.states):
                    for sign in device.signals:
                        self.assertEqual(renamed.step(names[state], sign), names[device.step(state, sign)])
        device = Device([(0, 0, 1)])
        for value in any_values() + [(0, 1), (0, 1, 1), (0, 1, 2, 3), [2, 0, True], [1, 2, 3]]:
            if not isinstance(value, (list, tuple)) or list(value) != [0, 1, 2]:
                self.refuses(BadDevice, 0, renamed_device, device, value)

    def test_swapped(self):
        device = Device([(0, 0), (1, 1), (1, 0)])
        self.assertEqual(swapped_signals(device, "cab"), Device([(1, 0), (0, 0), (1, 1)]))
        self.assertEqual(swapped_signals(device=device, signals="abc"), device)
        for value in any_values() + ["abb", "abcd", "ab", ["a", "b", "c"]]:
            if value != "abc":
                self.refuses(Refused, value, swapped_signals, device, value)

    def test_doubled(self):
        for device in small_devices(42, 20):
            for sign in device.signals:
                more = doubled_signal(device, sign)
                self.assertEqual(more.signals, "abcde"[:len(device.signals) + 1])
                for row in rows_to(more.signals, 2):
                    self.assertEqual(more.effect(row), device.effect(row.replace(more.signals[-1], sign)))
        full = Device([(0, 1)] * 5)
        for value in any_values():
            if value not in ("a", "b") or not isinstance(value, str):
                self.refuses(NoSignal, value, doubled_signal, full, value)
        self.refuses(TooGreat, 5, doubled_signal, full, signal="e")

    def test_alike_by_all_names(self):
        draw = Draw(43)
        for device in small_devices(43, 60):
            names = draw.shuffled(range(device.states))
            signals = "".join(draw.shuffled(device.signals))
            other = renamed_device(swapped_signals(device, signals), names)
            told = alike_names(device, other)
            self.assertEqual(told, plain_alike(device, other))
            self.assertTrue(is_tupled(told))
        devices = small_devices(44, 25, states=3, signals=2)
        for one, other in itertools.product(devices, repeat=2):
            self.assertEqual(alike_names(one=one, other=other), plain_alike(one, other))

    def test_alike_of_greater_devices(self):
        draw = Draw(45)
        for states in (8, 8, 8, 60):
            device = draw.device(states, 5)
            names = draw.shuffled(range(states))
            other = renamed_device(swapped_signals(device, "ecadb"), names)
            told, signals = alike_names(device, other)
            self.assertEqual(renamed_device(swapped_signals(device, signals), told), other)
        self.assertEqual(alike_names(Device([[0] * 60] * 5), Device([[0] * 60] * 5)), (tuple(range(60)), "abcde"))
        self.assertIsNone(alike_names(Device([[0] * 60] * 5), Device([[0] * 59 + [1]] * 5)))

    def test_own_names(self):
        for device in small_devices(46, 60, states=5):
            many = 0
            for names in itertools.permutations(range(device.states)):
                many += renamed_device(device, names) == device
            self.assertEqual(own_names(device), many)
        self.assertEqual(own_names(Device([range_list(6)])), math.factorial(6))
        self.assertEqual(own_names(device=Device([[1, 2, 3, 4, 5, 0]])), 6)
        self.assertEqual(own_names(Device([[1, 0, 3, 2, 5, 4]] * 5)), 48)


def range_list(many):
    return list(range(many))


if __name__ == "__main__":
    unittest.main()

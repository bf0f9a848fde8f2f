"""Rows said again and again: point [9]."""

import math
import unittest

from backinstep.devices import Device, said_effect
from backinstep.errors import BadRow, Refused
from backinstep.turns import Turn, first_unlike, ring_numbers
from tests.plain import Case, Draw, any_values, is_tupled, small_devices


def turns_of_devices(seed, many, states=7):
    draw = Draw(seed)
    turns = []
    for device in small_devices(seed, many, states):
        turns.append(Turn(device, draw.row(device, draw.below(5))))
    return turns


class TurnTest(Case):

    def test_told_example(self):
        turn = Turn(Device([(1, 2, 0, 0), (0, 1, 2, 1)]), "a")
        self.assertEqual((turn.tails, turn.rings, turn.period), ((0, 0, 0, 1), ((0, 1, 2),), 3))
        self.assertEqual((turn.word, turn.once, turn.device.states), ("a", (1, 2, 0, 0), 4))
        self.assertEqual((turn.core(), turn.square_at(), ring_numbers(turn)), ((0, 1, 2), 3, ((3, 1),)))

    def test_attributes_by_steps(self):
        for turn in turns_of_devices(11, 80):
            once = turn.once
            self.assertEqual(once, turn.device.effect(turn.word))
            powers = [said_effect(once, times) for times in range(2 * len(once) + 1)]
            on_ring = [state for state in range(len(once)) if state in [power[state] for power in powers[1:]]]
            self.assertEqual(turn.core(), tuple(on_ring))
            rings = set()
            for state in on_ring:
                ring = [power[state] for power in powers[:[p[state] for p in powers].index(state, 1)]]
                least = ring.index(min(ring))
                rings.add(tuple(ring[least:] + ring[:least]))
            self.assertEqual(turn.rings, tuple(sorted(rings)))
            tails = [[power[state] in on_ring for power in powers].index(True) for state in range(len(once))]
            self.assertEqual(turn.tails, tuple(tails))
            self.assertEqual(turn.period, math.lcm(*[len(ring) for ring in rings]))
            lengths = [len(ring) for ring in rings]
            self.assertEqual(ring_numbers(turn), tuple((n, lengths.count(n)) for n in sorted(set(lengths))))
            self.assertTrue(is_tupled((turn.rings, turn.tails, turn.core(), ring_numbers(turn))))

    def test_said_and_left(self):
        for turn in turns_of_devices(12, 60):
            effect = tuple(range(turn.device.states))
            for times in range(20):
                self.assertEqual(turn.said_at(times), effect)
                if times > 0:
                    left = len([state for state, end in enumerate(effect) if state == end])
                    self.assertEqual(turn.left_at(times), left)
                effect = tuple(turn.once[state] for state in effect)

    def test_square(self):
        for turn in turns_of_devices(13, 80):
            times = 1
            while turn.said_at(2 * times) != turn.said_at(times):
                times += 1
            self.assertEqual(turn.square_at(), times)

    def test_great_times(self):
        turn = Turn(Device([[(state + 1) % 59 for state in range(59)] + [0]]), "a")
        self.assertEqual(turn.said_at(10 ** 18)[0], 10 ** 18 % 59)
        self.assertEqual(turn.said_at(times=10 ** 18 - 1)[59], (10 ** 18 - 2) % 59)
        self.assertEqual((turn.left_at(59 * 10 ** 16), turn.left_at(10 ** 18), turn.square_at()), (59, 0, 59))
        self.assertEqual(turn.left_at(times=59), 59)

    def test_edges(self):
        turn = Turn(Device([[0]]), "")
        self.assertEqual((turn.rings, turn.tails, turn.period, turn.square_at()), (((0,),), (0,), 1, 1))
        line = Turn(Device([[max(0, state - 1) for state in range(60)]]), row="a")
        self.assertEqual((line.square_at(), line.core(), line.tails[59]), (59, (0,), 59))
        rings = Turn(Device([[1, 0, 3, 4, 2, 6, 7, 8, 5]]), "a")
        self.assertEqual((rings.period, rings.square_at(), rings.left_at(6), rings.left_at(4)), (12, 12, 5, 6))

    def test_refuses(self):
        turn = Turn(Device([(1, 0)]), "a")
        for value in any_values():
            if type(value) is not int or not 0 <= value <= 10 ** 18:
                self.refuses(Refused, value, turn.said_at, value)
            if type(value) is not int or not 1 <= value <= 10 ** 18:
                self.refuses(Refused, value, turn.left_at, value)
            if not isinstance(value, str):
                self.refuses(BadRow, -1, Turn, turn.device, value)
        self.refuses(BadRow, 1, Turn, turn.device, "ab")
        self.refuses(BadRow, 10000, Turn, turn.device, "a" * 10001)
        self.assertEqual(Turn(turn.device, "a" * 10000).once, (0, 1))

    def test_first_unlike(self):
        turns = turns_of_devices(14, 40)
        for one in turns:
            for other in turns:
                unlike = [times for times in range(1, 13) if one.left_at(times) != other.left_at(times)]
                self.assertEqual(first_unlike(one, other), unlike[0] if unlike else None)
                self.assertEqual(first_unlike(one, other) is None, ring_numbers(one) == ring_numbers(other))


if __name__ == "__main__":
    unittest.main()

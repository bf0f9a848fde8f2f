"""Dealings and dials: points [20] and [21]."""

import itertools
import math
import unittest

from backinstep.dealings import (
    Dealing, all_dealings, all_dials, dial_at, dial_total, hour_exponent, is_commuting, is_dial, joined_dealing,
    labels_dealing, met_dealing, widest_dial,
)
from backinstep.devices import Device
from backinstep.errors import NoState, Refused
from backinstep.hours import Hours, device_hours
from backinstep.stairs import is_stair, stair_parts, stair_size, stair_within
from tests.plain import CLOCKS, Case, Draw, any_values, is_tupled, listed, partitions, small_devices

TOLD = Hours(Device([(1, 2, 3, 0), (1, 0, 1, 0)]), 0)
TWO = Hours(Device([(1, 0, 3, 4, 2, 0), (0, 1, 3, 4, 2, 2)]), 1)
GREAT = 10 ** 18


def hours_of_devices(seed, many, states=5, signals=3):
    devices = CLOCKS + small_devices(seed, many, states, signals)
    return [hours for device in devices for hours in device_hours(device)]


def plain_commutes(hours, groups):
    of = {state: at for at, group in enumerate(groups) for state in group}
    tables = hours.device.tables
    kept = all(len({of[table[state]] for state in group}) == 1 for group in groups for table in tables)
    return kept and all(of[two[one[s]]] == of[one[two[s]]] for one in tables for two in tables for s in of)


def as_groups(groups):
    return tuple(sorted(tuple(sorted(group)) for group in groups))


def grouping_labels(hours, groups, names):
    of = {state: at for at, group in enumerate(groups) for state in group}
    return [names[of[state]] for state in hours.district]


class DealingTest(Case):

    def test_told_example(self):
        told = [((0, 1, 2, 3),), ((0, 2), (1, 3))]
        self.assertEqual([dealing.groups for dealing in all_dealings(TOLD)], told)

    def test_dealings_are_the_commuting_groupings(self):
        draw = Draw(91)
        for hours in hours_of_devices(91, 50):
            good = []
            for groups in partitions(list(hours.district)):
                names = [draw.below(GREAT) * 2 - GREAT + at for at in range(len(groups))]
                labels = grouping_labels(hours, groups, names)
                commutes = plain_commutes(hours, groups)
                self.assertIs(is_commuting(hours, labels), commutes)
                dealing = labels_dealing(hours, tuple(labels))
                self.assertEqual(dealing is not None, commutes)
                if commutes:
                    good.append(as_groups(groups))
                    self.assertEqual(dealing.groups, as_groups(groups))
                    self.assertIn(dealing, all_dealings(hours))
            dealings = all_dealings(hours)
            self.assertIsInstance(dealings, tuple)
            self.assertEqual(sorted(dealing.groups for dealing in dealings), sorted(good))
            stairs = [dealing.stair for dealing in dealings]
            self.assertEqual(stairs, sorted(set(stairs)))
            for dealing in dealings:
                self.assertTrue(is_stair(dealing.stair) and stair_within(hours.stair, dealing.stair))
                self.assertEqual(dealing.size, stair_size(dealing.stair))
                self.assertEqual(dealing.size, len(dealing.groups))
                self.assertEqual(dealing, Dealing(hours=hours, stair=listed(dealing.stair)))
                self.assertTrue(is_tupled((dealing.stair, dealing.groups)))
                self.assertTrue(dealing.hours is hours)

    def test_all_dealings_of_eight_states(self):
        xor = Device([[state ^ step for state in range(8)] for step in (1, 2, 4)])
        self.assertEqual(len(all_dealings(Hours(xor, 0))), 16)
        clock = Device([[(state + step) % 8 for state in range(8)] for step in (1, 2, 3, 5, 7)])
        self.assertEqual([dealing.size for dealing in all_dealings(hours=Hours(clock, 0))], [1, 2, 4, 8])
        self.assertEqual(len(all_dealings(Hours(Device([[0]] * 5), 0))), 1)

    def test_joined_and_met(self):
        for hours in hours_of_devices(92, 40) + [Hours(Device([[s ^ step for s in range(8)] for step in (1, 2, 4)]), 0)]:
            dealings = all_dealings(hours)
            for one, other in itertools.product(dealings, repeat=2):
                over = [d for d in dealings if self.inside(one, d) and self.inside(other, d)]
                under = [d for d in dealings if self.inside(d, one) and self.inside(d, other)]
                joined = joined_dealing(one=one, other=other)
                self.assertIn(joined, over)
                self.assertTrue(all(self.inside(joined, d) for d in over))
                met = met_dealing(one=one, other=other)
                self.assertIn(met, under)
                self.assertTrue(all(self.inside(d, met) for d in under))

    def inside(self, one, other):
        return all(any(set(group) <= set(whole) for whole in other.groups) for group in one.groups)

    def test_equal(self):
        one, other = all_dealings(TOLD)
        self.assertTrue(one == Dealing(Hours(Device(TOLD.device.tables), 0), one.stair))
        self.assertFalse(one == other)
        self.assertFalse(Dealing(TWO, ((1, 0), (0, 1))) == Dealing(TOLD, ((1, 0), (0, 1))))
        for value in any_values() + [TOLD]:
            self.assertFalse(one == value)

    def test_wrong_stairs(self):
        good = [((1, 1), (0, 2)), ((1, 0), (0, 1))]
        values = any_values() + [((1, 0), (0, 2)), ((1, 1), (0, 4)), ((2, 0), (0, 1)), ((1,),), ((1, 1), (0, 1))]
        values += [((1, 0, 0), (0, 1, 0), (0, 0, 1)), ((1, 2), (0, 2)), ((True, 0), (0, 1)), ((1, -1), (0, 2))]
        for value in values:
            self.refuses(Refused, value, Dealing, TOLD, value)
        for value in good:
            self.assertEqual(Dealing(TOLD, listed(value)).stair, value)

    def test_later_changes_have_no_effect(self):
        stair = [[1, 1], [0, 2]]
        dealing = Dealing(TOLD, stair)
        stair[0][1] = 0
        self.assertEqual(dealing.stair, ((1, 1), (0, 2)))

    def test_wrong_labels(self):
        for call in (labels_dealing, is_commuting):
            for value in any_values() + [(0, 1, 0), (0, 1, 0, 1, 0), [0, 1, 0, True], [0, 1, 0, "1"]]:
                if not isinstance(value, (list, tuple)) or len(value) != 4:
                    self.refuses(Refused, value, call, TOLD, value)
                if type(value) is not int:
                    labels = [0, value, 0, 1]
                    self.refuses(Refused, labels, call, TOLD, labels)
        self.assertEqual(labels_dealing(hours=TOLD, labels=[GREAT, -GREAT, GREAT, -GREAT]).groups, ((0, 2), (1, 3)))
        self.assertIsNone(labels_dealing(TOLD, [0, 0, 1, 1]))
        self.assertFalse(is_commuting(hours=TOLD, labels=[0, 0, 1, 1]))


def plain_dial(hours, weights, modulus):
    """What a dial shows by state, or None if the state does not tell it."""
    shows = {hours.root: 0}
    queue = [hours.root]
    for state in queue:
        for weight, table in zip(weights, hours.device.tables):
            shown = (shows[state] + weight) % modulus
            if table[state] not in shows:
                shows[table[state]] = shown
                queue.append(table[state])
            if shows[table[state]] != shown:
                return None
    return shows


class DialTest(Case):

    def test_told_example(self):
        self.assertEqual(all_dials(TOLD, 2), ((0, 0), (1, 1)))

    def test_by_steps(self):
        for hours in hours_of_devices(93, 40, signals=2) + hours_of_devices(94, 10, states=4):
            width = len(hours.device.signals)
            for modulus in range(1, 7):
                dials = []
                for weights in itertools.product(range(modulus), repeat=width):
                    shows = plain_dial(hours, weights, modulus)
                    self.assertIs(is_dial(hours, list(weights), modulus), shows is not None)
                    if shows is None:
                        self.refuses(Refused, weights, dial_at, hours, weights, modulus, hours.root)
                        continue
                    dials.append(weights)
                    for state in hours.district:
                        self.assertEqual(dial_at(hours, weights, modulus, state), shows[state])
                        moved = [weight + modulus * (-1) ** at * 10 ** 17 for at, weight in enumerate(weights)]
                        self.assertEqual(dial_at(hours, moved, modulus, state), shows[state])
                self.assertEqual(all_dials(hours, modulus), tuple(dials))
                self.assertTrue(is_tupled(all_dials(hours, modulus)))
                self.assertEqual(dial_total(hours, modulus), len(dials))

    def test_widest(self):
        draw = Draw(95)
        for hours in hours_of_devices(95, 60, states=6):
            for _ in range(5):
                weights = [draw.below(13) - 6 for _ in hours.device.signals]
                fits = [modulus for modulus in range(1, 200) if plain_dial(hours, weights, modulus) is not None]
                widest = widest_dial(hours, weights)
                self.assertEqual(widest, 0 if len(fits) == 199 else fits[-1])
            self.assertEqual(widest_dial(hours, [0] * len(hours.stair)), 0)
        self.assertEqual(widest_dial(hours=TOLD, weights=(GREAT, GREAT)), 2 * GREAT)

    def test_exponent(self):
        for hours in hours_of_devices(96, 60, states=6):
            turns = [hours.turns_of([int(at == k) for k in range(len(hours.stair))]) for at in range(len(hours.stair))]
            self.assertEqual(hour_exponent(hours), math.lcm(*turns))
            dials = all_dials(hours, hour_exponent(hours))
            for one, other in itertools.combinations(hours.district, 2):
                shown = [[dial_at(hours, w, hour_exponent(hours), s) for w in dials] for s in (one, other)]
                self.assertEqual(shown[0] == shown[1], hours.hour_at(one) == hours.hour_at(other))
        self.assertEqual((hour_exponent(Hours(Device([[0]]), 0)), hour_exponent(hours=TWO)), (1, 3))

    def test_great_moduli(self):
        for modulus in (GREAT, GREAT - 1, 60 * 10 ** 16, 7 ** 21):
            for hours in hours_of_devices(97, 30, states=8, signals=5):
                dials = all_dials(hours=hours, modulus=modulus)
                self.assertEqual(list(dials), sorted(set(dials)))
                total = math.prod(math.gcd(modulus, part) for part in stair_parts(hours.stair))
                self.assertEqual((dial_total(hours=hours, modulus=modulus), len(dials)), (total, total))
                for weights in dials:
                    self.assertTrue(is_dial(hours=hours, weights=weights, modulus=modulus))
                    self.assertTrue(all(0 <= weight < modulus for weight in weights))

    def test_wrong_values(self):
        for value in any_values() + [(0, 0, 0), [0, True], [0, "0"]]:
            if not isinstance(value, (list, tuple)) or len(value) != 2 or any(type(item) is not int for item in value):
                self.refuses(Refused, value, is_dial, TWO, value, None)
                self.refuses(Refused, value, widest_dial, TWO, value)
                self.refuses(Refused, value, dial_at, TWO, value, None, None)
            if type(value) is not int or value < 1:
                self.refuses(Refused, value, is_dial, TWO, (0, 0), value)
                self.refuses(Refused, value, dial_at, TWO, (0, 0), value, None)
                self.refuses(Refused, value, dial_total, TWO, value)
                self.refuses(Refused, value, all_dials, TWO, value)
            if type(value) is not int or not 0 <= value < 6:
                self.refuses(NoState, value, dial_at, TWO, (0, 1), 3, value)
        self.refuses(Refused, 5, dial_at, TWO, (0, 1), 3, 5)
        self.refuses(Refused, (0, 1), dial_at, TWO, (0, 1), 3, 2)
        self.assertEqual(dial_at(hours=TWO, weights=(1, 1), modulus=3, state=4), 2)


if __name__ == "__main__":
    unittest.main()

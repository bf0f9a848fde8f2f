"""Weighted tables, their roots, devices with told levels: points [62] to [64]."""

import functools
import itertools
import unittest

from backinstep.clocks import Clocks
from backinstep.devices import Device, few_signals
from backinstep.errors import NotYes, Refused, TooGreat
from backinstep.hours import device_hours
from backinstep.lots import lot_hours, lot_levels, unlike_lot
from backinstep.roots import (
    check_levels, clock_polynomial, clock_shares, crossed_levels, joined_levels, parting_row, root_polynomial,
    same_numbers, star_device, weight_roots, weight_trace, weighted_table,
)
from backinstep.spaces import is_right, is_which
from backinstep.stairs import stair_parts, stair_within
from backinstep.verdicts import is_yes, wrong_knots
from tests.plain import CLOCKS, Case, Draw, any_values, is_tupled, listed, lots_of, rows_to, small_devices
from tests.test_clocks import clocked_devices, many_clocks
from tests.test_lots import CROSS, FALL, all_lots_of, told_devices

HUGE = 10 ** 18
TWIST = Device([(0, 1, 0, 1), (2, 3, 3, 2)])


def weights_of(draw, device, most=9):
    return tuple(draw.below(2 * most + 1) - most for _ in device.signals)


def times_polynomial(one, other):
    told = [0] * (len(one) + len(other) - 1)
    for at, number in enumerate(one):
        for more, factor in enumerate(other):
            told[at + more] += number * factor
    return told


def determinant(rows):
    """The determinant of a table of numbers, by its first line."""
    if not rows:
        return 1
    total = 0
    for at, number in enumerate(rows[0]):
        if number:
            total += (-1) ** at * number * determinant([row[:at] + row[at + 1:] for row in rows[1:]])
    return total


def plain_table(device, weights):
    rows = [[0] * device.states for _ in range(device.states)]
    for table, weight in zip(device.tables, weights):
        for state, goal in enumerate(table):
            rows[state][goal] += weight
    return rows


def values_at(polynomial, value):
    return sum(number * value ** power for power, number in enumerate(polynomial))


class PolynomialTest(Case):

    def test_told_example(self):
        self.assertEqual(weight_roots(FALL, (5, -2)), (-2, 0, 3))

    def test_tables(self):
        draw = Draw(341)
        for device in small_devices(341, 60) + small_devices(342, 6, 6, 5):
            weights = weights_of(draw, device)
            rows = plain_table(device, weights)
            self.assertEqual(weighted_table(device=device, weights=list(weights)), tuple(map(tuple, rows)))
            polynomial = root_polynomial(device=device, weights=weights)
            self.assertEqual((len(polynomial), polynomial[-1]), (device.states + 1, 1))
            self.assertTrue(is_tupled(polynomial))
            for value in range(-3, device.states):
                shown = [[value * (at == column) - number for column, number in enumerate(row)] for at, row in enumerate(rows)]
                self.assertEqual(values_at(polynomial, value), determinant(shown))
        self.assertEqual(root_polynomial(Device([[0]]), (-10 ** 6,)), (10 ** 6, 1))
        wide = Device([[max(0, state - 1) for state in range(60)], list(range(60))])
        self.assertEqual(root_polynomial(wide, (0, 10 ** 6))[0], 10 ** 360)

    def test_clock_polynomial(self):
        draw = Draw(343)
        for device in small_devices(343, 40) + CLOCKS:
            weights = weights_of(draw, device, 5)
            for hours in device_hours(device):
                places = list(hours.hours_list())
                for lot in all_lots_of(device):
                    rows = [[0] * len(places) for _ in places]
                    for at, hour in enumerate(places):
                        for index, sign in enumerate(device.signals):
                            if sign in lot:
                                counts = [int(index == place) for place in range(len(device.signals))]
                                rows[at][places.index(hours.moved_hour(hour, counts))] += weights[index]
                    told = clock_polynomial(hours=hours, lot=lot, weights=list(weights))
                    self.assertEqual((len(told), told[-1]), (hours.size + 1, 1))
                    for value in range(-2, 3):
                        shown = [[value * (at == column) - number for column, number in enumerate(row)]
                                 for at, row in enumerate(rows)]
                        self.assertEqual(values_at(told, value), determinant(shown))

    def test_products_of_clock_polynomials(self):
        draw = Draw(344)
        many = 0
        for device in told_devices(344):
            if not is_right(device):
                continue
            many += 1
            weights = weights_of(draw, device, 4)
            sides = [list(root_polynomial(device, weights)), [0] * device.states + [1]]
            for lot in lots_of(device.signals):
                few = few_signals(device, lot)
                told = [weight for sign, weight in zip(device.signals, weights) if sign in lot]
                for hours in device_hours(few):
                    for inner in all_lots_of(few):
                        odd = (len(lot) - len(inner)) % 2
                        side = 0 if odd else 1
                        sides[side] = times_polynomial(sides[side], clock_polynomial(hours, inner, told))
            self.assertEqual(sides[0], sides[1])
        self.assertGreater(many, 20)

    def test_weight_roots(self):
        draw = Draw(345)
        for device in told_devices(345, 80):
            weights = weights_of(draw, device)
            if not is_which(device):
                self.refuses(NotYes, unlike_lot(device), weight_roots, device, weights)
                continue
            roots = weight_roots(device=device, weights=list(weights))
            product = functools.reduce(times_polynomial, [[-root, 1] for root in roots], [1])
            self.assertEqual(tuple(product), root_polynomial(device, weights))
            self.assertEqual(list(roots), sorted(roots))

    def test_weight_trace(self):
        draw = Draw(346)
        for device in small_devices(346, 40):
            weights = weights_of(draw, device)
            for times in range(1, 5):
                total = 0
                for row in itertools.product(range(len(device.signals)), repeat=times):
                    word = "".join(device.signals[index] for index in row)
                    product = functools.reduce(lambda one, index: one * weights[index], row, 1)
                    total += product * len(device.left_alone(word))
                for modulus in (1, 2, 97, 10 ** 9):
                    told = weight_trace(device=device, weights=weights, times=times, modulus=modulus)
                    self.assertEqual(told, total % modulus)
        for device in told_devices(347, 30):
            if is_which(device):
                weights = weights_of(draw, device, 10 ** 6)
                for times in (60, 601, HUGE):
                    told = sum(pow(root, times, 10 ** 9) for root in weight_roots(device, weights)) % 10 ** 9
                    self.assertEqual(weight_trace(device, weights, times, 10 ** 9), told)
        ring = Device([[1, 2, 0]])
        self.assertEqual((weight_trace(ring, (-1,), HUGE, 7), weight_trace(ring, (-1,), 3, 7)), (0, 4))

    def test_wrong_values(self):
        hours = device_hours(FALL)[0]
        for value in any_values() + [(0, 10 ** 6 + 1), [-10 ** 6 - 1, 0], (1, 2, 3), (0, True), (0, None)]:
            good = isinstance(value, (list, tuple)) and len(value) == 2 and all(
                type(item) is int and abs(item) <= 10 ** 6 for item in value)
            if not good:
                for device in (FALL, CROSS):
                    for call in (weighted_table, root_polynomial, weight_roots):
                        self.refuses(Refused, value, call, device, value)
                    self.refuses(Refused, value, weight_trace, device, value, None, None)
                self.refuses(Refused, value, clock_polynomial, hours, "a", value)
            if type(value) is not int or not 1 <= value <= HUGE:
                self.refuses(Refused, value, weight_trace, FALL, (1, 1), value, None)
            if type(value) is not int or not 1 <= value <= 10 ** 9:
                self.refuses(Refused, value, weight_trace, FALL, (1, 1), HUGE, value)
            if not isinstance(value, str) or value not in ("", "a", "b", "ab"):
                self.refuses(Refused, value, clock_polynomial, hours, value, None)
        self.refuses(NotYes, "a", weight_roots, CROSS, (-10 ** 6, 10 ** 6))
        self.refuses(NotYes, "a", weight_roots, Device([[1, 0]]), (1,))
        self.refuses(Refused, 10 ** 9 + 1, weight_trace, FALL, (1, 1), 1, 10 ** 9 + 1)
        self.refuses(Refused, HUGE + 1, weight_trace, FALL, (1, 1), HUGE + 1, 1)


class StarTest(Case):

    def plain_levels(self, signals, value):
        """The levels of any value by lot, or None."""
        if not isinstance(value, (list, tuple)):
            return None
        levels = {}
        for pair in value:
            if not isinstance(pair, (list, tuple)) or len(pair) != 2:
                return None
            lot, many = pair
            if not isinstance(lot, str) or lot not in [""] + lots_of(signals) or lot in levels:
                return None
            if type(many) is not int or not 1 <= many <= 60:
                return None
            levels[lot] = many
        return levels

    def told(self, levels):
        return tuple(sorted(levels.items(), key=lambda pair: (len(pair[0]), pair[0])))

    def drawn(self, seed, many):
        draw = Draw(seed)
        for _ in range(many):
            signals = "abcde"[:1 + draw.below(5)]
            lots = draw.shuffled([""] + lots_of(signals))[:1 + draw.below(4)]
            yield signals, [(lot, 1 + draw.below(9)) for lot in lots]

    def test_check_levels(self):
        for signals, levels in self.drawn(351, 60):
            told = check_levels(signals=signals, value=listed(levels))
            self.assertEqual(told, self.told(dict(levels)))
            self.assertTrue(is_tupled(told))
        self.assertEqual((check_levels("a", []), check_levels("ab", ())), ((), ()))
        values = any_values() + [
            [("a", 0)], [("a", 61)], [("a", True)], [("a", 1), ("a", 2)], [("ba", 1)], [("c", 1)], [("a", 1, 1)], ["a1"],
            [("a",)], [(1, "a")], [("a", 1), None], (("a", 60), ("ab", 1)), [["", 1]]]
        for value in values:
            levels = self.plain_levels("ab", value)
            if levels is None:
                self.refuses(Refused, value, check_levels, "ab", value)
                self.refuses(Refused, value, star_device, "ab", value)
                for call in (joined_levels, crossed_levels):
                    self.refuses(Refused, value, call, "ab", value, None)
                    self.refuses(Refused, value, call, "ab", [("a", 1)], value)
            else:
                self.assertEqual(check_levels("ab", value), self.told(levels))

    def test_stars(self):
        for signals, levels in self.drawn(352, 40):
            if signals not in dict(levels):
                self.refuses(Refused, levels, star_device, signals, levels)
                levels = levels + [(signals, 1)]
            device = star_device(signals=signals, value=levels)
            self.assertEqual((device.signals, device.states), (signals, sum(many for _, many in levels)))
            self.assertTrue(is_right(device) and is_which(device))
            self.assertEqual(lot_levels(device), self.told(dict(levels)))
        self.assertEqual(star_device("ab", [("ab", 60)]).states, 60)
        self.refuses(TooGreat, 60, star_device, "ab", [("ab", 60), ("", 1)])
        self.refuses(TooGreat, 60, star_device, "ab", [("ab", 1), ("a", 30), ("b", 30)])
        self.refuses(Refused, [("a", 60), ("b", 60)], star_device, "ab", [("a", 60), ("b", 60)])
        self.refuses(Refused, [], star_device, "a", [])
        self.assertEqual(star_device("a", [("a", 1)]), Device([[0]]))

    def test_two_levels(self):
        draw = Draw(353)
        for _ in range(30):
            signals = "abc"[:1 + draw.below(3)]
            mine, theirs = [
                [(lot, 1 + draw.below(2)) for lot in draw.shuffled([""] + lots_of(signals)[:-1])[:draw.below(3)]]
                + [(signals, 1 + draw.below(2))] for _ in range(2)]
            one, other = star_device(signals, mine), star_device(signals, theirs)
            size = other.states
            union = Device([list(left) + [one.states + state for state in right]
                            for left, right in zip(one.tables, other.tables)])
            crossed = Device([[left[at // size] * size + right[at % size] for at in range(one.states * size)]
                              for left, right in zip(one.tables, other.tables)])
            self.assertEqual(joined_levels(signals=signals, one=mine, other=theirs), lot_levels(union))
            self.assertEqual(crossed_levels(signals=signals, one=listed(mine), other=theirs), lot_levels(crossed))
        self.assertEqual(joined_levels("a", [("a", 60)], [("a", 60)]), (("a", 120),))
        self.assertEqual(crossed_levels("ab", [("a", 60)], [("b", 60), ("ab", 2)]), (("", 3600), ("a", 120)))
        self.assertEqual((joined_levels("a", [], []), crossed_levels("a", [], [("a", 1)])), ((), ()))


class SameNumbersTest(Case):

    def test_parting_row(self):
        draw = Draw(354)
        same = 0
        for _ in range(150):
            signals = 1 + draw.below(3)
            one = draw.device(1 + draw.below(4), signals)
            other = draw.device(one.states, signals)
            if draw.below(3) == 0:
                names = draw.shuffled(range(one.states))
                other = Device([[names[table[names.index(at)]] for at in range(one.states)] for table in one.tables])
            row = parting_row(one=one, other=other)
            self.assertIs(same_numbers(one=one, other=other), row is None)
            same += row is None
            length = 5 if row is None else len(row)
            parts = [told for told in rows_to(one.signals, min(length, 6))
                     if len(one.left_alone(told)) != len(other.left_alone(told))]
            if row is None:
                self.assertEqual(parts, [])
            else:
                self.assertNotEqual(len(one.left_alone(row)), len(other.left_alone(row)))
                if len(row) <= 6:
                    self.assertEqual(row, parts[0])
        self.assertGreater(same, 30)

    def test_edges(self):
        self.assertEqual(parting_row(Device([[0]]), Device([[0, 1]])), "")
        self.assertEqual(parting_row(Device([[1, 0]]), Device([[0, 0]])), "a")
        five = Device([list(range(5))])
        self.refuses(Refused, FALL, parting_row, five, FALL)
        self.refuses(Refused, FALL, same_numbers, Device([[0]]), FALL)
        for one, other in ((five, five), (five, Device([[0]])), (Device([[0]]), five)):
            self.refuses(TooGreat, 4, parting_row, one, other)
            self.refuses(TooGreat, 4, same_numbers, one, other)

    def test_clock_shares(self):
        for device in clocked_devices(355):
            hours = device_hours(device)
            shares = clock_shares(device=device)
            self.assertEqual(list(shares), sorted(shares))
            self.assertTrue(is_tupled(shares))
            for stair, many in shares:
                self.assertLessEqual(len(stair_parts(stair)), 1)
                self.assertEqual(many, sum(stair_within(told.stair, stair) for told in hours))
                self.assertGreater(many, 0)
            self.assertEqual({stair for stair, _ in shares}, self.plain_stairs(device, hours))
        self.refuses(NotYes, wrong_knots(TWIST)[0][1][0], clock_shares, TWIST)

    def plain_stairs(self, device, hours):
        """All staircases with steps to some number, of at most one part, around that of a district."""
        width, told = len(device.signals), set()
        for district in hours:
            size = district.size
            steps = [[step for step in range(1, size + 1) if size % step == 0]] * width
            for diagonal in itertools.product(*steps):
                rows = [[[0] * at + [step] + list(rest) for rest in itertools.product(*[range(diagonal[later]) for later in range(
                    at + 1, width)])] for at, step in enumerate(diagonal)]
                for stair in itertools.product(*rows):
                    stair = tuple(map(tuple, stair))
                    if stair_within(district.stair, stair) and len(stair_parts(stair)) <= 1:
                        told.add(stair)
        return told

    def test_equal_shares(self):
        draw = Draw(356)
        pairs = []
        devices = [device for device in clocked_devices(357) if is_yes(device)]
        for _ in range(150):
            one, other = draw.one_of(devices), draw.one_of(devices)
            if one.signals == other.signals:
                pairs.append((one, other))
        for one, other in pairs:
            equal = clock_shares(one) == clock_shares(other)
            mine, theirs = Clocks(one), Clocks(other)
            counts = itertools.product(range(1, 13), repeat=len(one.signals)) if len(one.signals) < 3 else itertools.product(
                range(1, 7), repeat=len(one.signals))
            alike = all(mine.left_by_counts(told) == theirs.left_by_counts(told) for told in counts)
            self.assertIs(equal, alike)

    def test_unlike_districts_equal_shares(self):
        # four places moved by a and by b apart, and two left as they are; or three times two, each moved otherwise
        square = [(2, 3, 0, 1), (1, 0, 3, 2)]
        one = Device([list(square[0]) + [4, 5], list(square[1]) + [4, 5]])
        pairs = [(1, 0), (0, 1), (1, 1)]
        other = Device([[2 * at + (state + weights[index]) % 2 for at, weights in enumerate(pairs) for state in range(2)]
                        for index in range(2)])
        self.assertEqual(clock_shares(one), clock_shares(other))
        self.assertTrue(is_yes(one) and is_yes(other))
        for counts in itertools.product(range(1, 5), repeat=2):
            self.assertEqual(Clocks(one).left_by_counts(counts), Clocks(other).left_by_counts(counts))
        self.assertEqual(len(clock_shares(many_clocks(2, 3))), 3)
        self.assertEqual(lot_hours(one, "ab"), lot_hours(other, "ab"))


if __name__ == "__main__":
    unittest.main()

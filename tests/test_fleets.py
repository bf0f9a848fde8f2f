"""Copies that are told signals alone: points [85] and [86]."""

import itertools
import unittest

from backinstep.devices import Device
from backinstep.errors import BadFamily, NoState, Refused
from backinstep.fleets import fleet_rows, hour_row, mend_holds, mend_number, mend_paper, state_offset
from backinstep.hours import device_hours
from backinstep.stairs import in_stair, stair_rest
from backinstep.sure import is_sure
from tests.plain import (
    CLOCKS, Case, Draw, any_values, bends, clock, end_of, is_tupled, listed, rows_to, same, small_devices,
)
from tests.test_classes import drawn
from tests.test_twain import home

TOLD = Device([(1, 2, 3, 0, 0), (0, 1, 2, 3, 0)])


def counts(device, row):
    return [row.count(sign) for sign in device.signals]


def are_mended(device, family, one, other):
    return one == other or is_sure(device, family, (min(one, other), max(one, other)))


def plain_steps(device, place):
    one, other = place
    for sign in device.signals:
        yield (0, sign), (device.step(one, sign), device.step(other, sign))
        yield (1, sign), (device.step(one, sign), other)
        yield (2, sign), (one, device.step(other, sign))


def plain_numbers(device, family):
    """The fewest private signals by ordered pairs, lowered again and again until nothing is new."""
    places = list(itertools.product(range(device.states), repeat=2))
    numbers = {place: 0 if are_mended(device, family, *place) else None for place in places}
    changed = True
    while changed:
        changed = False
        for place in places:
            for (who, _), goal in plain_steps(device, place):
                if numbers[goal] is not None:
                    many = numbers[goal] + (who != 0)
                    if numbers[place] is None or many < numbers[place]:
                        numbers[place], changed = many, True
    return numbers


class FleetTest(Case):

    def test_told_example(self):
        told = (state_offset(TOLD, 0, 3), fleet_rows(TOLD, (0, 1, 3, 3)), mend_number(TOLD, ("ab",), 0, 2))
        self.assertEqual(told, ((3, 0), ("", "aaa", "a", "a"), 2))

    def test_offset(self):
        draw = Draw(631)
        seen = set()
        for device in small_devices(631, 80) + CLOCKS:
            for one, other in itertools.product(range(device.states), repeat=2):
                hours = home(device, one)
                told = state_offset(device=device, one=one, other=other)
                if hours is None or other not in hours.district:
                    self.assertIsNone(told)
                    continue
                seen.add(told)
                moved = [b - a for a, b in zip(hours.hour_at(one), hours.hour_at(other))]
                self.assertTrue(same(told, stair_rest(hours.stair, moved)))
                row = draw.row(device, draw.below(5))
                self.assertEqual(state_offset(device, end_of(device, one, row), end_of(device, other, row)), told)
                for sign in device.signals:
                    later = [number + more for number, more in zip(told, counts(device, sign))]
                    self.assertEqual(state_offset(device, one, device.step(other, sign)), stair_rest(hours.stair, later))
        self.assertGreater(len(seen), 10)

    def test_hour_row(self):
        for device in small_devices(632, 60) + CLOCKS:
            for hours in device_hours(device):
                firsts = {}
                for row in rows_to(device.signals, 7 if len(device.signals) < 3 else 5):
                    firsts.setdefault(stair_rest(hours.stair, counts(device, row)), row)
                for hour in hours.hours_list():
                    self.assertEqual(hour_row(hours=hours, hour=hour), firsts[hour])

    def plain_fleet(self, device, states):
        hours = home(device, states[0])
        if hours is None or not set(states) <= set(hours.district):
            return None
        fleets = []
        for goal in hours.hours_list():
            rows = [hour_row(hours, stair_rest(hours.stair, [a - b for a, b in zip(goal, hours.hour_at(state))])) for state in states]
            fleets.append((sum(map(len, rows)), goal, tuple(rows)))
        return min(fleets)[2]

    def test_fleet_rows(self):
        draw = Draw(633)
        none = 0
        for device in small_devices(633, 60) + CLOCKS:
            for _ in range(5):
                states = [draw.below(device.states) for _ in range(1 + draw.below(5))]
                told = fleet_rows(device=device, states=states)
                self.assertTrue(same(told, self.plain_fleet(device, states)))
                none += told is None
                if told is not None:
                    ends = [end_of(device, state, row) for state, row in zip(states, told)]
                    self.assertEqual(len({home(device, end).hour_at(end) for end in ends}), 1)
        self.assertGreater(none, 10)
        self.assertEqual(fleet_rows(clock(3, 1), (0,) * 500 + (1,)), ("",) * 500 + ("aa",))

    def test_fewest_in_all(self):
        draw = Draw(634)
        for device in [clock(4, 1), clock(5, 2, 4), clock(3, 1, 2), CLOCKS[9]]:
            rows = list(rows_to(device.signals, 4))
            for _ in range(3):
                states = [draw.below(device.states) for _ in range(3)]
                told = sum(map(len, fleet_rows(device, states)))
                # each copy's fewest signals to each hour, by a search through rows
                by_hour = {}
                for hour in range(device.states):
                    hours = [min((len(row) for row in rows if state_offset(device, hour, end_of(device, state, row)) ==
                                  state_offset(device, hour, hour)), default=99) for state in states]
                    by_hour[hour] = sum(hours)
                self.assertEqual(told, min(by_hour.values()))

    def test_wrong_values(self):
        hours = device_hours(TOLD)[0]
        for value in any_values():
            if type(value) is not int or not 0 <= value < 5:
                self.refuses(NoState, value, state_offset, TOLD, value, None)
                self.refuses(NoState, value, state_offset, TOLD, 4, value)
                self.refuses(NoState, value, fleet_rows, TOLD, [4, value, None])
            if not isinstance(value, (list, tuple)) or len(value) == 0:
                self.refuses(Refused, value, fleet_rows, TOLD, value)
            for hour in (value, (value, 0), [1, 0], (4, 0), (0, 1), (-1, 0), (True, 0), (0,), (0, 0, 0)):
                if not any(same(hour, told) for told in hours.hours_list()):
                    self.refuses(Refused, hour, hour_row, hours, hour)
        self.assertIsNone(fleet_rows(TOLD, [0, 4]))
        self.assertIsNone(fleet_rows(TOLD, [4]))


class MendTest(Case):

    def test_numbers(self):
        seen = set()
        for device, family in drawn(641, 60) + [(told, [told.signals]) for told in CLOCKS[:8]]:
            plain = plain_numbers(device, family)
            for (one, other), many in plain.items():
                told = mend_number(device=device, family=tuple(family), one=one, other=other)
                self.assertTrue(same(told, many))
                seen.add(told)
                hours = home(device, one)
                if hours is not None and other in hours.district:
                    fewest = sum(map(len, fleet_rows(device, (one, other))))
                    self.assertGreaterEqual(many, fewest)
                    if all(are_mended(device, family, *pair) for pair in itertools.combinations(hours.district, 2)
                           if hours.hour_at(pair[0]) == hours.hour_at(pair[1])):
                        self.assertEqual(many, fewest)
        self.assertTrue({None, 0, 1, 2} <= seen)

    def plain_holds(self, device, family, one, other, value):
        seq = (list, tuple)
        if not isinstance(value, seq) or len(value) not in (4, 5) or not isinstance(value[0], str):
            return False
        if not (type(value[1]) is type(value[2]) is int and (value[1], value[2]) == (one, other)):
            return False

        def is_place(place):
            if not isinstance(place, seq) or len(place) != 2 or not all(type(state) is int for state in place):
                return False
            return all(0 <= state < device.states for state in place) and not are_mended(device, family, *place)

        if value[0] == "parted" and len(value) == 4:
            if not isinstance(value[3], seq) or not all(map(is_place, value[3])):
                return False
            places = [tuple(place) for place in value[3]]
            if len(set(places)) != len(places) or (one, other) not in places:
                return False
            return all(goal in places for place in places for _, goal in plain_steps(device, place))
        if value[0] != "mend" or len(value) != 5 or not isinstance(value[3], seq) or not isinstance(value[4], seq):
            return False
        levels = {}
        for entry in value[4]:
            if not isinstance(entry, seq) or len(entry) != 2 or not is_place(entry[0]) or tuple(entry[0]) in levels:
                return False
            if type(entry[1]) is not int or entry[1] < 1:
                return False
            levels[tuple(entry[0])] = entry[1]
        for place, level in levels.items():
            for (who, _), goal in plain_steps(device, place):
                if levels.get(goal, 0) < level - (who != 0):
                    return False
        place, private = (one, other), 0
        for step in value[3]:
            if not isinstance(step, seq) or len(step) != 2 or type(step[0]) is not int or not isinstance(step[1], str):
                return False
            ways = dict(plain_steps(device, place))
            if tuple(step) not in ways:
                return False
            place, private = ways[tuple(step)], private + (step[0] != 0)
        return are_mended(device, family, *place) and private == levels.get((one, other), 0)

    def test_papers(self):
        kinds = set()
        for device, family in drawn(642, 50) + [(told, [told.signals]) for told in CLOCKS[:6]]:
            for one, other in itertools.product(range(device.states), repeat=2):
                paper = mend_paper(device=device, family=family, one=one, other=other)
                kinds.add(paper[0])
                self.assertTrue(is_tupled(paper) and self.plain_holds(device, family, one, other, paper))
                self.assertEqual(paper[0] == "parted", mend_number(device, family, one, other) is None)
                self.assertIs(mend_holds(device=device, family=family, one=one, other=other, value=paper), True)
                turned = listed(paper)
                turned[-1] = turned[-1][::-1]
                self.assertIs(mend_holds(device, family, one, other, turned), True)
                self.assertEqual(list(paper[-1]), sorted(paper[-1]))
        self.assertEqual(kinds, {"mend", "parted"})

    def test_bent(self):
        draw = Draw(643)
        held = {"mend": 0, "parted": 0}
        many = 0
        for device, family in drawn(643, 40, states=3):
            numbers = plain_numbers(device, family)
            for one, other in itertools.product(range(device.states), repeat=2):
                for bent in bends(mend_paper(device, family, one, other), draw, any_values()):
                    holds = self.plain_holds(device, family, one, other, bent)
                    many += 1
                    self.assertIs(mend_holds(device, family, one, other, bent), holds)
                    if holds:
                        held[bent[0]] += 1
                        # what holds tells the fewest private signals
                        private = None if bent[0] == "parted" else sum(who != 0 for who, _ in bent[3])
                        self.assertEqual(private, numbers[(one, other)])
        self.assertTrue(all(kind_held > 50 for kind_held in held.values()), held)
        self.assertGreater(many - sum(held.values()), 3000)

    def test_any_value(self):
        device = Device([(1, 2, 3, 0, 4), (0, 1, 2, 3, 4)])
        for one, other in ((0, 2), (0, 0), (0, 4)):
            paper = mend_paper(device, ["ab"], one, other)
            for value in any_values():
                bents = [value, (value,) + paper[1:], paper + (value,), paper[:-1] + (paper[-1] + (value,),)]
                bents += [paper[:at] + (value,) + paper[at + 1:] for at in range(1, len(paper))]
                bents += [paper[:3] + ((value,),) + paper[4:], paper[:3] + (((1, value), (1, "a")),) + paper[4:],
                          paper[:3] + (((value, "a"), (1, "a")),) + paper[4:]]
                for bent in bents:
                    holds = self.plain_holds(device, ["ab"], one, other, bent)
                    self.assertIs(mend_holds(device, ["ab"], one, other, bent), holds)
        self.assertEqual(mend_paper(device, ["ab"], 0, 0)[:4], ("mend", 0, 0, ()))
        self.assertTrue(mend_holds(device, ["ab"], 0, 0, ["mend", 0, 0, [], []]))
        self.assertTrue(mend_holds(device, ["ab"], 1, 1, ["mend", 1, 1, [[0, "a"], [0, "b"]], []]))
        self.assertFalse(mend_holds(device, ["ab"], 1, 1, ["mend", 0, 0, [], []]))
        self.assertFalse(mend_holds(device, ["ab"], 1, 2, ["mend", 2, 1, [(1, "a")], [((1, 2), 1)]]))

    def test_levels_that_fall_too_far(self):
        # told to the first alone, one signal is enough where the paper tells two
        ring = clock(3, 1)
        levels = tuple(((one, other), (one - other) % 3) for one in range(3) for other in range(3) if one != other)
        self.assertEqual(mend_number(ring, ["a"], 0, 1), 1)
        self.assertFalse(mend_holds(ring, ["a"], 0, 1, ("mend", 0, 1, ((2, "a"), (2, "a")), levels)))
        ones = tuple((place, 1) for place, _ in levels)
        self.assertTrue(mend_holds(ring, ["a"], 0, 1, ("mend", 0, 1, ((1, "a"),), ones)))

    def test_made_devices(self):
        long = Device([[(state + 1) % 40 for state in range(40)]])
        self.assertEqual(mend_number(long, ["a"], 3, 33), 10)
        self.assertTrue(mend_holds(long, ["a"], 3, 33, mend_paper(long, ["a"], 3, 33)))

    def test_wrong_values(self):
        for value in any_values():
            if not isinstance(value, (list, tuple)) or len(value) == 0:
                for call in (mend_number, mend_paper):
                    self.refuses(BadFamily, -1, call, TOLD, value, None, None)
                self.refuses(BadFamily, -1, mend_holds, TOLD, value, None, None, None)
            if type(value) is not int or not 0 <= value < 5:
                for call in (mend_number, mend_paper):
                    self.refuses(NoState, value, call, TOLD, ["ab"], value, None)
                    self.refuses(NoState, value, call, TOLD, ["ab"], 4, value)
                self.refuses(NoState, value, mend_holds, TOLD, ["ab"], value, None, None)
                self.refuses(NoState, value, mend_holds, TOLD, ["ab"], 4, value, None)
        self.refuses(BadFamily, 0, mend_number, TOLD, [""], -1, -1)
        one = Device([[0]])
        self.assertEqual((mend_number(one, ["a"], 0, 0), mend_paper(one, ["a"], 0, 0)), (0, ("mend", 0, 0, (), ())))


if __name__ == "__main__":
    unittest.main()

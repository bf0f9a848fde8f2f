"""Hours of closed districts: points [16] to [18]."""

import itertools
import unittest

from backinstep.devices import Device, row_counts
from backinstep.errors import BadCounts, NoSignal, NoState, PaperFault, Refused
from backinstep.hours import (
    Hours, check_hours, device_hours, hour_name, hour_total, hours_holds, hours_paper, like_pairs, step_sum,
)
from backinstep.stairs import all_rests, in_stair, is_stair, stair_of, stair_rest
from backinstep.webs import outsiders, web_districts
from tests.plain import (
    CLOCKS, Case, Draw, any_values, bends, end_of, is_tupled, listed, partitions, rows_to, same, small_devices,
)

TOLD = Device([(1, 2, 3, 0), (1, 0, 1, 0)])
TWO = Device([(1, 0, 3, 4, 2, 0), (0, 1, 3, 4, 2, 2)])


def hours_of_devices(seed, many, states=5, signals=3):
    devices = CLOCKS + small_devices(seed, many, states, signals)
    return [hours for device in devices for hours in device_hours(device)]


class HoursTest(Case):

    def test_told_example(self):
        hours = device_hours(TOLD)[0]
        self.assertEqual((hours.stair, hours.hour_at(3), hours.is_kept((3, 5))), (((1, 1), (0, 2)), (0, 1), True))
        self.assertEqual((hours.device, hours.number, hours.district, hours.root), (TOLD, 0, (0, 1, 2, 3), 0))
        self.assertEqual((hours.walks, hours.size, hours.hours_list()), (("", "a", "aa", "aaa"), 2, ((0, 0), (0, 1))))

    def test_attributes(self):
        for device in CLOCKS + small_devices(61, 40, states=5):
            districts = web_districts(device)
            self.assertIsInstance(device_hours(device), tuple)
            self.assertEqual([hours.district for hours in device_hours(device)], list(districts))
            for number, hours in enumerate(device_hours(device)):
                self.assertEqual(hours, Hours(device=device, number=number))
                self.assertEqual((hours.device, hours.number, hours.root), (device, number, districts[number][0]))
                for state, walk in zip(hours.district, hours.walks):
                    rows = [row for row in rows_to(device.signals, len(walk)) if end_of(device, hours.root, row) == state]
                    self.assertEqual(walk, rows[0])
                self.assertTrue(is_tupled((hours.district, hours.walks, hours.stair)))
                self.assertTrue(is_stair(hours.stair))
                rests = all_rests(hours.stair)
                self.assertEqual((hours.size, hours.hours_list()), (len(rests), rests))
                self.assertEqual({hours.hour_at(state) for state in hours.district}, set(rests))
            self.assertEqual(hour_total(device), sum(hours.size for hours in device_hours(device)))

    def test_staircase_by_closed_rows(self):
        for hours in hours_of_devices(62, 40, states=4, signals=2):
            device = hours.device
            if len(device.signals) > 2 or device.states > 6:
                continue
            closed = set()
            for row in rows_to(device.signals, 8):
                for state in hours.district:
                    if end_of(device, state, row) == state:
                        closed.add(row_counts(device, row))
            self.assertTrue(all(in_stair(hours.stair, counts) for counts in closed))
            self.assertEqual(stair_of(len(device.signals), sorted(closed)), hours.stair)

    def test_equal(self):
        hours = Hours(TWO, 0)
        self.assertTrue(hours == Hours(Device(TWO.tables), 0))
        self.assertFalse(hours == Hours(TWO, 1))
        self.assertFalse(Hours(Device([(0, 1)]), 0) == Hours(Device([(0, 1), (0, 1)]), 0))
        for value in any_values():
            self.assertFalse(hours == value)

    def test_numbers(self):
        for value in any_values():
            if type(value) is int and 0 <= value < 2:
                self.assertEqual(Hours(TWO, value).number, value)
            else:
                self.refuses(Refused, value, Hours, TWO, value)

    def test_counts_lead_hours(self):
        draw = Draw(63)
        for hours in hours_of_devices(63, 60, states=7, signals=4):
            for length in (0, 1, 2, 5, 30):
                row = draw.row(hours.device, length)
                counts = row_counts(hours.device, row)
                for state in hours.district:
                    end = end_of(hours.device, state, row)
                    self.assertEqual(hours.moved_hour(hours.hour_at(state), list(counts)), hours.hour_at(end))
                kept = [hours.moved_hour(hour, counts) == hour for hour in hours.hours_list()]
                self.assertEqual([hours.is_kept(counts)] * len(kept), kept)
                turns = [times for times in range(1, 61) if hours.is_kept([times * count for count in counts])]
                self.assertEqual(hours.turns_of(counts=counts), turns[0])
            for hour in hours.hours_list():
                states = tuple(state for state in hours.district if hours.hour_at(state) == hour)
                self.assertEqual(hours.states_at(hour=hour), states)

    def test_as_many_places_as_hours(self):
        draw = Draw(64)
        for device in small_devices(64, 60, states=6, signals=4):
            for length in (0, 3, 40):
                self.assertGreaterEqual(len(device.places(draw.row(device, length))), hour_total(device))

    def test_finest_commuting_grouping(self):
        for hours in hours_of_devices(65, 60, states=5):
            if hours.device.states > 6:
                continue
            tables = hours.device.tables
            good = []
            for groups in partitions(list(hours.district)):
                of = {state: at for at, group in enumerate(groups) for state in group}
                kept = all(len({of[table[state]] for state in group}) == 1 for group in groups for table in tables)
                if kept and all(of[one[two[s]]] == of[two[one[s]]] for one in tables for two in tables for s in of):
                    good.append({tuple(sorted(group)) for group in groups})
            mine = {hours.states_at(hour) for hour in hours.hours_list()}
            self.assertIn(mine, good)
            self.assertEqual(max(map(len, good)), len(mine))
            self.assertEqual([groups for groups in good if len(groups) == len(mine)], [mine])

    def test_no_hour(self):
        hours = Hours(TOLD, 0)
        for vector in ((1, 0), (0, 2), (0, -1), (0,), (0, 0, 0), (5, 5), (0, 10 ** 18)):
            self.assertEqual(hours.states_at(vector), ())
        self.assertEqual((hours.states_at((0, 0)), hours.states_at([0, 1])), ((0, 2), (1, 3)))

    def test_wrong_states(self):
        hours = Hours(TWO, 1)
        for value in any_values():
            if type(value) is not int or not 0 <= value < 6:
                self.refuses(NoState, value, hours.hour_at, value)
                self.refuses(NoState, value, step_sum, hours, value, None)
                self.refuses(NoState, value, hour_name, TWO, value)
        for state in (0, 1, 5):
            self.refuses(Refused, state, hours.hour_at, state)
            self.refuses(Refused, state, step_sum, hours, state, None)
        self.assertEqual(hours.hour_at(state=3), (0, 1))

    def test_wrong_counts(self):
        hours = Hours(TWO, 1)
        calls = [lambda counts: hours.moved_hour((0, 0), counts), hours.is_kept, hours.turns_of]
        for call in calls:
            for value in any_values():
                if not isinstance(value, (list, tuple)) or len(value) != 2:
                    self.refuses(BadCounts, -1, call, value)
                if type(value) is not int or not 0 <= value <= 10 ** 18:
                    self.refuses(BadCounts, 1, call, [5, value])
                    self.refuses(BadCounts, 0, call, (value, value))
            call((10 ** 18, 10 ** 18))
        self.assertEqual(hours.moved_hour(hour=(0, 2), counts=(10 ** 18, 1)), stair_rest(hours.stair, (10 ** 18, 3)))

    def test_names_and_pairs(self):
        mixed = Device([(0, 1, 1, 0, 1, 0), (3, 2, 4, 5, 1, 0)])
        self.assertEqual(like_pairs(mixed), ((0, 3), (0, 5), (1, 2), (1, 4), (2, 4), (3, 5)))
        for device in CLOCKS + [mixed] + small_devices(66, 50, states=6):
            names = [hour_name(device, state) for state in range(device.states)]
            for number, hours in enumerate(device_hours(device)):
                for state in hours.district:
                    self.assertEqual(names[state], (number, hours.hour_at(state)))
            self.assertEqual([state for state, name in enumerate(names) if name is None], list(outsiders(device)))
            pairs = itertools.combinations(range(device.states), 2)
            like = tuple(pair for pair in pairs if names[pair[0]] and names[pair[0]] == names[pair[1]])
            self.assertEqual(like_pairs(device), like)
        self.assertEqual((hour_name(TWO, state=5), hour_name(device=TWO, state=4)), (None, (1, (0, 2))))

    def test_step_sums(self):
        for hours in hours_of_devices(67, 40):
            walked = {state: row_counts(hours.device, walk) for state, walk in zip(hours.district, hours.walks)}
            sums = []
            for state in hours.district:
                for at, sign in enumerate(hours.device.signals):
                    goal = walked[hours.device.step(state, sign)]
                    told = tuple(walked[state][k] + (k == at) - goal[k] for k in range(len(goal)))
                    self.assertEqual(step_sum(hours=hours, state=state, signal=sign), told)
                    self.assertTrue(in_stair(hours.stair, told))
                    sums.append(told)
            self.assertEqual(stair_of(len(hours.stair), sums), hours.stair)
        hours = Hours(TWO, 1)
        for value in any_values():
            if value not in ("a", "b") or not isinstance(value, str):
                self.refuses(NoSignal, value, step_sum, hours, 2, value)

    def test_sixty_states(self):
        device = Device([[(state + step) % 60 for state in range(60)] for step in (1, 7, 30, 12, 59)])
        hours = device_hours(device)[0]
        self.assertEqual((hours.size, hour_total(device), like_pairs(device)), (60, 60, ()))
        self.assertTrue(hours_holds(device, hours_paper(device)))
        still = Device([list(range(60))] * 5)
        self.assertEqual((len(device_hours(still)), hour_total(still), len(hours_paper(still)[1])), (60, 60, 60))


def plain_is_row(device, value):
    return isinstance(value, str) and len(value) <= 10000 and set(value) <= set(device.signals)


def plain_entry_holds(device, district, entry):
    """Whether any value is an entry, by the words of the document."""
    if not isinstance(entry, (list, tuple)) or len(entry) != 4:
        return False
    told, walks, stair, shares = entry
    if not isinstance(told, (list, tuple)) or not same(tuple(told), district):
        return False
    if not isinstance(walks, (list, tuple)) or len(walks) != len(district):
        return False
    if not all(plain_is_row(device, walk) for walk in walks):
        return False
    if [end_of(device, district[0], walk) for walk in walks] != list(district):
        return False
    counts = dict(zip(district, [row_counts(device, walk) for walk in walks]))
    width = len(device.signals)
    sums = {}
    for state in district:
        for at, sign in enumerate(device.signals):
            goal = counts[device.step(state, sign)]
            sums[state, sign] = [counts[state][k] + (k == at) - goal[k] for k in range(width)]
    if not is_stair(stair) or len(stair) != width or not all(in_stair(stair, told) for told in sums.values()):
        return False
    if not isinstance(shares, (list, tuple)) or len(shares) != width:
        return False
    for share, row in zip(shares, stair):
        made = [0] * width
        if not isinstance(share, (list, tuple)):
            return False
        for triple in share:
            if not isinstance(triple, (list, tuple)) or len(triple) != 3:
                return False
            state, sign, times = triple
            if type(state) is not int or not isinstance(sign, str) or type(times) is not int:
                return False
            if (state, sign) not in sums:
                return False
            made = [number + times * more for number, more in zip(made, sums[state, sign])]
        if made != list(row):
            return False
    return True


def plain_fault(device, value):
    districts = web_districts(device)
    if not isinstance(value, (list, tuple)) or len(value) != 2 or value[0] != "hours":
        return 0
    if not isinstance(value[1], (list, tuple)) or len(value[1]) != len(districts):
        return 0
    wrong = [at for at, entry in enumerate(value[1]) if not plain_entry_holds(device, districts[at], entry)]
    return wrong[0] + 1 if wrong else None


class HoursPaperTest(Case):

    def look(self, device, value):
        fault = plain_fault(device, value)
        self.assertIs(hours_holds(device, value), fault is None)
        if fault is None:
            self.assertIsNone(check_hours(device, value))
        else:
            self.refuses(PaperFault, fault, check_hours, device, value)
        return fault

    def test_papers_hold(self):
        for device in CLOCKS + small_devices(71, 60, states=8, signals=5):
            paper = hours_paper(device)
            self.assertTrue(is_tupled(paper))
            self.assertIsNone(self.look(device, paper))
            self.assertIsNone(self.look(device, listed(paper)))
            self.assertEqual(len(paper[1]), len(web_districts(device)))

    def test_other_walks_and_shares(self):
        word, ((district, walks, stair, shares),) = hours_paper(TOLD)
        other = ["aaaab" + "b", "abab" + "a", "aaaaaa", "aaa"]
        sums = plain_fault(TOLD, ["hours", [[list(district), other, stair, shares]]])
        self.assertEqual(self.look(TOLD, ["hours", [[list(district), other, stair, shares]]]), sums)
        twice = [[(1, "b", 3), (1, "b", -2)], shares[1] + ((2, "a", 0), (2, "a", 0))]
        self.assertIsNone(self.look(TOLD, (word, [(district, walks, stair, twice)])))
        longer = ("a" * 10000,) + walks[1:]
        self.assertEqual(self.look(TOLD, (word, [(district, ("a" * 10004,) + walks[1:], stair, shares)])), 1)
        self.look(TOLD, (word, [(district, longer, stair, shares)]))
        for narrow in (((1,),), [[1], [1]], ((1, 1),), ((1, 0, 0), (0, 1, 0), (0, 0, 1))):
            for told in (shares, shares[:1], shares + ((),), (((0, "b", -1), (0, "a", 0)),), (shares[0], ())):
                self.assertEqual(self.look(TOLD, (word, [(district, walks, narrow, told)])), 1)
        finer = ((1, 1), (0, 4))
        self.assertEqual(self.look(TOLD, (word, [(district, walks, finer, shares)])), 1)

    def test_bent_papers(self):
        draw = Draw(72)
        leaves = any_values()
        many = held = 0
        for device in small_devices(72, 12, states=4, signals=2) + [TWO]:
            for bent in bends(hours_paper(device), draw, leaves):
                many += 1
                held += self.look(device, bent) is None
        self.assertGreater(many, 1000)
        self.assertGreater(held, 20)

    def test_any_value(self):
        for value in any_values():
            for bent in (value, ("hours", value), ["hours", [value, value]], ("hours", (value,)), (value, ())):
                self.look(TOLD, bent)
                self.look(TWO, bent)
        self.refuses(PaperFault, 2, check_hours, TWO, ("hours", (hours_paper(TWO)[1][0], None)))
        self.refuses(PaperFault, 1, check_hours, TWO, ("hours", (None, None)))
        self.refuses(PaperFault, 0, check_hours, device=TWO, value=("hours", (None, None, None)))


if __name__ == "__main__":
    unittest.main()

"""Two devices that hear one row: points [72] and [73]."""

import itertools
import unittest

from backinstep.devices import Device
from backinstep.errors import NoState, Refused, TooGreat
from backinstep.hours import Hours, device_hours
from backinstep.stairs import (
    all_rests, both_stair, in_stair, stair_of, stair_rest, stair_size, sum_stair,
)
from backinstep.sure import is_sure
from backinstep.twain import (
    beside_device, meeting_counts, meeting_hours, meeting_row, twain_parts, twain_rest, uniting_row,
)
from backinstep.webs import outsiders, web_districts
from tests.plain import (
    CLOCKS, Case, Draw, any_values, clock, end_of, is_tupled, places_after, rows_to, same, small_devices, two_clocks,
)

HUGE = 10 ** 18


def twains(seed, many, states=4):
    draw = Draw(seed)
    for _ in range(many):
        signals = 1 + draw.below(3)
        yield draw.device(1 + draw.below(states), signals), draw.device(1 + draw.below(states), signals)
    for one in CLOCKS:
        for other in CLOCKS[::3]:
            if one.signals == other.signals:
                yield one, other


def home(device, state):
    for hours in device_hours(device):
        if state in hours.district:
            return hours
    return None


def unit(signals, sign):
    return [int(other == sign) for other in signals]


class TwainTest(Case):

    def test_beside(self):
        for one, other in twains(541, 40):
            if one.states * other.states > 60:
                self.refuses(TooGreat, 60, beside_device, one, other)
                continue
            made = beside_device(one=one, other=other)
            self.assertEqual((made.states, made.signals), (one.states * other.states, one.signals))
            for row in rows_to(one.signals, 2):
                for i in range(one.states):
                    for j in range(other.states):
                        end = end_of(one, i, row) * other.states + end_of(other, j, row)
                        self.assertEqual(made.after(i * other.states + j, row), end)

    def test_sure_beside(self):
        draw = Draw(542)
        for one, other in itertools.islice(twains(542, 25, states=3), 25):
            family = draw.family(one)
            made = beside_device(one, other)
            for pair in itertools.combinations(range(made.states), 2):
                parts = [(one, [state // other.states for state in pair]), (other, [state % other.states for state in pair])]
                told = all(states[0] == states[1] or is_sure(device, family, tuple(sorted(states))) for device, states in parts)
                self.assertEqual(is_sure(made, family, pair), told)

    def test_too_great(self):
        sixty = Device([[0] * 60])
        self.assertEqual(beside_device(sixty, Device([[0]])).states, 60)
        self.assertEqual(beside_device(Device([[0]]), sixty), sixty)
        self.refuses(TooGreat, 60, beside_device, sixty, Device([[0, 0]]))
        self.refuses(TooGreat, 60, beside_device, clock(8, 1), clock(8, 1))
        self.refuses(TooGreat, 60, twain_parts, clock(8, 1), clock(8, 1), 0, 0)
        self.refuses(Refused, 1, twain_parts, clock(8, 1), clock(8, 1), 0, 1)

    def joined_apart(self, device, hours):
        """Whether each two states of one hour of the district are joined by some row."""
        pairs = [pair for pair in itertools.combinations(hours.district, 2) if hours.hour_at(pair[0]) == hours.hour_at(pair[1])]
        for pair in pairs:
            found = [pair]
            for place in found:
                found += [ends for ends in (places_after(device, place, sign) for sign in device.signals) if ends not in found]
            if all(len(place) == 2 for place in found):
                return False
        return True

    def test_uniting(self):
        seen = set()
        for device in small_devices(543, 120) + CLOCKS:
            for hours in device_hours(device):
                row = uniting_row(device=device, number=hours.number)
                seen.add(row)
                self.assertEqual(row is not None, self.joined_apart(device, hours))
                if row is not None:
                    for hour in hours.hours_list():
                        self.assertEqual(len(places_after(device, hours.states_at(hour), row)), 1)
        self.assertTrue({None, ""} < seen)

    def test_uniting_far(self):
        # Cerny's device: only long rows bring all eight together
        device = Device([(1, 2, 3, 4, 5, 6, 7, 0), (1, 1, 2, 3, 4, 5, 6, 7)])
        self.assertEqual(len(device.places(uniting_row(device, 0))), 1)
        long = Device([[(state + 1) % 40 for state in range(40)], [1] + list(range(1, 40))])
        row = uniting_row(long, 0)
        self.assertEqual((len(long.places(row)), len(row) <= 10000), (1, True))

    def test_rest(self):
        draw = Draw(544)
        seen = set()
        for one, other in twains(544, 60):
            for state in range(one.states):
                for second in range(other.states):
                    mine, theirs = home(one, state), home(other, second)
                    told = twain_rest(one=one, other=other, state=state, second=second)
                    if mine is None or theirs is None:
                        self.assertIsNone(told)
                        continue
                    both = sum_stair(mine.stair, theirs.stair)
                    moved = [a - b for a, b in zip(mine.hour_at(state), theirs.hour_at(second))]
                    self.assertTrue(same(told, stair_rest(both, moved)))
                    seen.add(told)
                    row = draw.row(one, draw.below(6))
                    self.assertEqual(twain_rest(one, other, end_of(one, state, row), end_of(other, second, row)), told)
        self.assertGreater(len(seen), 4)

    def test_parts(self):
        many = alone = 0
        stirred = Device([(1, 0, 2), (0, 2, 1)])
        for one, other in list(twains(545, 60)) + [(stirred, stirred), (stirred, Device([(1, 0, 3, 2), (2, 3, 1, 0)]))]:
            if one.states * other.states > 60:
                continue
            made = beside_device(one, other)
            for mine in device_hours(one):
                for theirs in device_hours(other):
                    told = twain_parts(one=one, other=other, first=mine.number, second=theirs.number)
                    plain = []
                    for states in web_districts(made):
                        i, j = divmod(states[0], other.states)
                        if i in mine.district and j in theirs.district:
                            plain.append((twain_rest(one, other, i, j), states))
                    self.assertTrue(is_tupled(told))
                    self.assertEqual(told, tuple(sorted(plain)))
                    rests = [rest for rest, _ in told]
                    both = sum_stair(mine.stair, theirs.stair)
                    self.assertEqual(set(rests), set(all_rests(both)))
                    many += 1
                    if uniting_row(one, mine.number) is not None or uniting_row(other, theirs.number) is not None:
                        alone += 1
                        self.assertEqual(len(rests), len(set(rests)))
                        size = stair_size(both_stair(mine.stair, theirs.stair))
                        for _, states in told:
                            self.assertEqual(home(made, states[0]).size, size)
                            self.assertEqual(home(made, states[0]).stair, both_stair(mine.stair, theirs.stair))
        self.assertGreater(alone, 40)
        self.assertGreater(many, alone)

    def test_a_district_and_itself(self):
        seen = set()
        for device in small_devices(546, 80, states=4) + CLOCKS:
            for hours in device_hours(device):
                if device.states ** 2 <= 60:
                    parts = twain_parts(device, device, hours.number, hours.number)
                    unites = uniting_row(device, hours.number) is not None
                    seen.add(unites)
                    self.assertEqual(unites, len(parts) == hours.size)
        self.assertEqual(seen, {True, False})

    def test_meeting_hours(self):
        for one, other in twains(547, 60):
            for state in range(one.states):
                for second in range(other.states):
                    mine, theirs = home(one, state), home(other, second)
                    told = meeting_hours(one=one, other=other, state=state, second=second)
                    if mine is None or theirs is None:
                        self.assertIsNone(told)
                        continue
                    queue = [(state, second)]
                    for i, j in queue:
                        ends = [(end_of(one, i, sign), end_of(other, j, sign)) for sign in one.signals]
                        queue += [end for end in dict.fromkeys(ends) if end not in queue]
                    plain = {(mine.hour_at(i), theirs.hour_at(j)) for i, j in queue}
                    self.assertTrue(same(told, tuple(sorted(plain))))

    def test_meeting_row(self):
        found = set()
        for one, other in list(twains(548, 25, states=3)) + [(clock(2, 1), clock(3, 2)), (clock(4, 1, 3), clock(6, 1, 1))]:
            rows = list(rows_to(one.signals, 6 if len(one.signals) < 3 else 4))
            for state, second in ((0, 0), (one.states - 1, 0), (0, other.states - 1)):
                mine, theirs = home(one, state), home(other, second)
                if mine is None or theirs is None:
                    self.assertIsNone(meeting_row(one, other, state, second, None, "any"))
                    continue
                firsts = {}
                for row in rows:
                    key = (mine.hour_at(end_of(one, state, row)), theirs.hour_at(end_of(other, second, row)))
                    firsts.setdefault(key, row)
                for hour in mine.hours_list():
                    for later in theirs.hours_list():
                        row = meeting_row(one=one, other=other, state=state, second=second, hour=hour, later=later)
                        found.add(row)
                        meets = (hour, later) in meeting_hours(one, other, state, second)
                        self.assertEqual(row is not None, meets)
                        if row is not None and len(row) <= len(rows[-1]):
                            self.assertEqual(row, firsts[(hour, later)])
                        elif row is None:
                            self.assertNotIn((hour, later), firsts)
        self.assertTrue({None, ""} < found)

    def test_far_meeting(self):
        row = meeting_row(clock(7, 1), clock(8, 1), 0, 0, (6,), (0,))
        self.assertEqual(row, "a" * 48)

    def test_wrong_values(self):
        one, other = Device([(1, 2, 0, 0), (0, 1, 2, 0)]), clock(2, 1, 0)
        for value in any_values():
            if type(value) is not int or not 0 <= value < 4:
                for call in (twain_rest, meeting_hours):
                    self.refuses(NoState, value, call, one, other, value, None)
                self.refuses(NoState, value, meeting_row, one, other, value, None, None, None)
            if type(value) is not int or not 0 <= value < 2:
                for call in (twain_rest, meeting_hours):
                    self.refuses(NoState, value, call, one, other, 3, value)
                self.refuses(NoState, value, meeting_row, one, other, 3, value, None, None)
            if type(value) is not int or value != 0:
                self.refuses(Refused, value, twain_parts, one, other, value, None)
                self.refuses(Refused, value, twain_parts, one, other, 0, value)
                self.refuses(Refused, value, uniting_row, one, value)
            hours = device_hours(one)[0]
            for hour in (value, (value, 0), (0, value), [0, 0], (3, 0), (0, 1), (-1, 0), (0,), (0, 0, 0), (True, 0)):
                if not any(same(hour, told) for told in hours.hours_list()):
                    self.refuses(Refused, hour, meeting_row, one, other, 0, 0, hour, None)
                    self.assertIsNone(meeting_row(one, other, 3, 0, hour, None))
            for later in (value, (value, 0), [1, 0], (2, 0), (0, 1), (False, 0)):
                if not any(same(later, told) for told in ((0, 0), (1, 0))):
                    self.refuses(Refused, later, meeting_row, one, other, 0, 0, (0, 0), later)

    def test_unlike_signals(self):
        one, other = clock(2, 1), clock(2, 1, 1)
        self.refuses(Refused, other, beside_device, one, other)
        self.refuses(Refused, other, twain_rest, one, other, None, None)
        self.refuses(Refused, other, twain_parts, one, other, None, None)
        self.refuses(Refused, other, meeting_hours, one, other, None, None)
        self.refuses(Refused, other, meeting_row, one, other, None, None, None, None)
        great = Device([[0] * 60] * 2)
        self.refuses(Refused, great, beside_device, Device([[0] * 60]), great)


class MeetingCountsTest(Case):

    def test_told_example(self):
        stairs = [((2, 0), (0, 1)), ((1, 0), (0, 2)), ((1, 1), (0, 2))]
        self.assertEqual(meeting_counts(stairs[:2], [(1, 0), (0, 0)]), (1, 0))
        self.assertIsNone(meeting_counts(stairs, [(1, 0), (0, 0), (0, 0)]))
        for left in range(3):
            few = [at for at in range(3) if at != left]
            vectors = [(1, 0), (0, 0), (0, 0)]
            self.assertIsNotNone(meeting_counts([stairs[at] for at in few], [vectors[at] for at in few]))

    def drawn_stair(self, draw, width, most):
        rows = [[0] * at + [1 + draw.below(most)] + [draw.below(most) for _ in range(width - at - 1)] for at in range(width)]
        return stair_of(width, rows)

    def test_plain(self):
        draw = Draw(551)
        seen = set()
        for _ in range(150):
            width, many = 1 + draw.below(2), 1 + draw.below(3)
            stairs = [self.drawn_stair(draw, width, 4) for _ in range(many)]
            vectors = [tuple(draw.below(9) - 4 for _ in range(width)) for _ in range(many)]
            joint = stairs[0]
            for stair in stairs[1:]:
                joint = both_stair(joint, stair)
            fits = [rest for rest in all_rests(joint) if all(
                in_stair(stair, [a - b for a, b in zip(rest, vector)]) for stair, vector in zip(stairs, vectors))]
            self.assertLessEqual(len(fits), 1)
            told = meeting_counts(stairs=tuple(stairs), vectors=tuple(vectors))
            self.assertTrue(same(told, fits[0]) if fits else told is None)
            seen.add(told is None)
        self.assertEqual(seen, {True, False})

    def test_great_numbers(self):
        draw = Draw(552)
        met = 0
        for _ in range(40):
            width = 1 + draw.below(5)
            stairs = [self.drawn_stair(draw, width, 12) for _ in range(2 + draw.below(2))]
            hidden = [draw.below(2 * HUGE) - HUGE for _ in range(width)]
            vectors = []
            for stair in stairs:
                vector = hidden
                for row in stair:
                    times = draw.below(1000) - 500
                    vector = [number + times * more for number, more in zip(vector, row)]
                vectors.append(tuple(vector))
            told = meeting_counts(stairs, vectors)
            joint = stairs[0]
            for stair in stairs[1:]:
                joint = both_stair(joint, stair)
            self.assertEqual(told, stair_rest(joint, hidden))
            met += 1
        self.assertEqual(met, 40)
        self.assertEqual(meeting_counts([((10 ** 6,),), ((10 ** 6 - 1,),)], [(HUGE,), (-HUGE,)]),
                         (next(x for x in range(0, 10 ** 12, 10 ** 6) if (x + HUGE) % (10 ** 6 - 1) == 0),))

    def test_one_staircase(self):
        self.assertEqual(meeting_counts([((3, 1), (0, 2))], [(-4, 9)]), stair_rest(((3, 1), (0, 2)), (-4, 9)))


if __name__ == "__main__":
    unittest.main()

"""What a long row does to a device told yes: points [46] and [47]."""

import functools
import itertools
import unittest

from backinstep.devices import Device, check_pieces, pieces_counts, pieces_effect
from backinstep.entries import (
    all_entries, all_seats, effects_total, joined_three, joint_size, joint_stair, made_effect, made_row, row_entries,
    three_things,
)
from backinstep.errors import BadRow, NotYes, Refused, TooGreat
from backinstep.hours import device_hours, hour_total
from backinstep.stairs import in_stair, stair_rest, stair_size
from backinstep.verdicts import is_yes, wrong_knots
from backinstep.webs import outsiders
from tests.plain import (
    CLOCKS, Case, Draw, any_values, cuts_of, end_of, is_tupled, listed, places_after, rows_to, small_devices,
)

LATE = Device([(1, 0, 0), (0, 1, 0)])
TWIST = Device([(0, 1, 0, 1), (2, 3, 3, 2)])
NINE = Device([list(range(9))])


def outer(clock, draw, many):
    """A clock with outsiders that fall to lower states."""
    tables = []
    for table in clock.tables:
        tables.append(list(table) + [draw.below(clock.states + at) for at in range(many)])
    return Device(tables)


def yes_devices(seed, many, states=4, signals=3):
    draw = Draw(seed)
    devices = [device for device in small_devices(seed, many, states, signals) if is_yes(device)]
    for clock in CLOCKS:
        if clock.states < states:
            made = outer(clock, draw, states - clock.states)
            if is_yes(made):
                devices.append(made)
    return devices


@functools.cache
def told_of(tables):
    """Of a device its outsiders, by state in a district the hours, how many hours there are, the joint staircase."""
    device = Device(tables)
    homes = {state: hours for hours in device_hours(device) for state in hours.district}
    return outsiders(device), homes, hour_total(device), joint_stair(device)


def plain_entries(device, row):
    """The entries of a row, None if some outsider is not brought in."""
    outside, homes, _, _ = told_of(device.tables)
    counts = [row.count(sign) for sign in device.signals]
    entries = []
    for state in outside:
        end = end_of(device, state, row)
        if end not in homes:
            return None
        moved = [number - less for number, less in zip(homes[end].hour_at(end), counts)]
        entries.append((homes[end].number, stair_rest(homes[end].stair, moved)))
    return tuple(entries)


def plain_three(device, row):
    _, _, many, joint = told_of(device.tables)
    seats = places_after(device, range(device.states), row)
    if len(seats) > many:
        return None
    return plain_entries(device, row), seats, stair_rest(joint, [row.count(sign) for sign in device.signals])


class JointTest(Case):

    def test_joint_stair(self):
        for device in small_devices(271, 60) + CLOCKS:
            stairs = [hours.stair for hours in device_hours(device)]
            joint = joint_stair(device=device)
            self.assertEqual(joint_size(device=device), stair_size(joint))
            if len(device.signals) < 3:
                for vector in itertools.product(range(-6, 7), repeat=len(device.signals)):
                    self.assertIs(in_stair(joint, vector), all(in_stair(stair, vector) for stair in stairs))
        self.assertEqual((joint_stair(TWIST), joint_size(TWIST)), (((1, 0), (0, 1)), 1))
        two = Device([(1, 0, 3, 4, 2), (1, 0, 2, 3, 4)])
        self.assertEqual((joint_stair(two), joint_size(two)), (((3, 1), (0, 2)), 6))


class EntryTest(Case):

    def test_told_example(self):
        self.assertEqual((three_things(LATE, "ab"), effects_total(LATE)), ((((0, (1, 0)),), (0, 1), (1, 0)), 4))

    def test_by_rows(self):
        for device in yes_devices(272, 60):
            for row in rows_to(device.signals, 4):
                entries, three = plain_entries(device, row), plain_three(device, row)
                if entries is None:
                    self.refuses(Refused, row, row_entries, device, row)
                else:
                    self.assertEqual(row_entries(device=device, row=row), entries)
                if three is None:
                    self.refuses(Refused, row, three_things, device, row)
                else:
                    self.assertEqual(three_things(device=device, row=row), three)

    def test_all(self):
        for device in yes_devices(273, 60) + yes_devices(274, 6, 5):
            rows = list(rows_to(device.signals, 6 if len(device.signals) == 3 else 8))
            entries = {plain_entries(device, row) for row in rows} - {None}
            seats = {places_after(device, range(device.states), row) for row in rows}
            seats = {places for places in seats if len(places) == hour_total(device)}
            self.assertEqual(all_entries(device=device), tuple(sorted(entries)))
            self.assertEqual(all_seats(device=device), tuple(sorted(seats)))
            self.assertTrue(is_tupled(all_entries(device)))
            threes = {}
            for row in rows:
                three = plain_three(device, row)
                if three is not None:
                    threes.setdefault(three, set()).add(device.effect(row))
            many = len(entries) * len(seats) * joint_size(device)
            self.assertEqual(effects_total(device=device), many)
            self.assertLessEqual(len(threes), many)
            # one effect exactly for one and the same three things
            self.assertTrue(all(len(effects) == 1 for effects in threes.values()))
            self.assertEqual(len(set.union(*threes.values())), len(threes))

    def test_made(self):
        for device in yes_devices(275, 40) + yes_devices(276, 4, 5):
            joint = joint_stair(device)
            rests = list(itertools.product(*[range(row[at]) for at, row in enumerate(joint)]))
            effects = set()
            squares = {}
            for entries, seats, shift in itertools.product(all_entries(device), all_seats(device), rests):
                effect = made_effect(device=device, entries=entries, seats=seats, shift=shift)
                pieces = made_row(device=device, entries=entries, seats=seats, shift=list(shift))
                self.assertEqual(check_pieces(device, pieces), pieces)
                self.assertEqual(pieces_effect(device, pieces), effect)
                self.assertEqual(stair_rest(joint, pieces_counts(device, pieces)), shift)
                row = "".join(word * times for word, times in pieces)
                self.assertEqual(three_things(device, row), (entries, seats, shift))
                effects.add(effect)
                if tuple(effect[end] for end in effect) == effect:
                    squares.setdefault((entries, seats), []).append(shift)
            self.assertEqual(len(effects), effects_total(device))
            self.assertEqual(len(squares), len(all_entries(device)) * len(all_seats(device)))
            self.assertTrue(all(shifts == [(0,) * len(joint)] for shifts in squares.values()))

    def test_joined(self):
        draw = Draw(277)
        for device in yes_devices(277, 60):
            told = []
            for row in rows_to(device.signals, 5):
                if plain_three(device, row) is not None:
                    told.append((row, plain_three(device, row)))
            for _ in range(6):
                (row, one), (more, other) = draw.one_of(told), draw.one_of(told)
                self.assertEqual(joined_three(device=device, one=one, other=other), three_things(device, row + more))
        three = (((0, (1, 0)),), (0, 1), (1, 0))
        far = (three[0], three[1], [10 ** 18 + 1, -7])
        self.assertEqual(joined_three(LATE, three, far), (three[0], (0, 1), (0, 0)))
        self.assertEqual(made_effect(LATE, three[0], three[1], (-1, 10 ** 18)), LATE.effect("ab"))

    def test_early_and_late_rounds(self):
        for device in yes_devices(278, 30, signals=2):
            many = device.states - hour_total(device)
            for row in rows_to(device.signals, 6):
                if cuts_of([device.signals], row) >= many:
                    for more in ("a", device.signals[-1] + "a"):
                        self.assertEqual(row_entries(device, row), row_entries(device, row + more))
                        self.assertEqual(three_things(device, row)[1], three_things(device, more + row)[1])

    def test_edges(self):
        one = Device([[0]])
        self.assertEqual((all_entries(one), all_seats(one), effects_total(one)), (((),), ((0,),), 1))
        self.assertEqual((three_things(one, ""), made_effect(one, (), (0,), (5,))), (((), (0,), (0,)), (0,)))
        self.assertEqual(pieces_effect(one, made_row(one, (), (0,), [0])), (0,))
        ring = Device([[1, 2, 0]])
        self.assertEqual((all_entries(ring), all_seats(ring), effects_total(ring)), (((),), ((0, 1, 2),), 3))
        self.assertEqual(made_effect(ring, (), (0, 1, 2), (-1,)), (2, 0, 1))
        # many rows shuffle the outsiders before one lets them in
        shuffle = Device([(1, 0, 2, 3, 4, 5, 6, 7), (1, 2, 3, 4, 5, 6, 0, 7), (7,) * 8])
        self.assertEqual((len(all_entries(shuffle)), all_seats(shuffle), effects_total(shuffle)), (1, ((7,),), 1))

    def test_order_of_errors(self):
        witness = wrong_knots(TWIST)[0][1][0]
        for value in any_values():
            if not isinstance(value, str):
                for device in (LATE, TWIST, NINE):
                    self.refuses(BadRow, -1, row_entries, device, value)
                    self.refuses(BadRow, -1, three_things, device, value)
            for call in (joined_three,):
                self.refuses(NotYes, witness, call, TWIST, value, None)
                self.refuses(TooGreat, 8, call, NINE, value, None)
            for call in (made_effect, made_row):
                self.refuses(NotYes, witness, call, TWIST, value, None, None)
                self.refuses(TooGreat, 8, call, NINE, value, None, None)
        self.refuses(BadRow, 1, three_things, TWIST, "ac")
        for call in (row_entries, three_things):
            self.refuses(NotYes, witness, call, TWIST, "")
            self.refuses(Refused, "", call, LATE, "")
        for call in (all_entries, all_seats, effects_total):
            self.refuses(NotYes, witness, call, TWIST)
            self.refuses(TooGreat, 8, call, NINE)
        self.assertEqual((row_entries(NINE, "a"), three_things(NINE, "")[2]), ((), (0,)))
        nine = Device([[1, 0] + list(range(2, 9)), [1, 2, 0] + list(range(3, 9))])
        self.refuses(NotYes, (0, 1), all_entries, nine)

    def test_refused(self):
        entries, seats, shift = ((0, (1, 0)),), (0, 1), (1, 0)
        for value in any_values() + [listed(entries), [(0, (1, 0))], ((False, (1, 0)),), ((0, (True, 0)),), ((0, [1, 0]),),
                                     ((0, (2, 0)),), [0, 1], (0, 2), (False, 1), (0, True), (1.0, 0)]:
            for call in (made_effect, made_row):
                self.refuses(Refused, value, call, LATE, value, None, None)
                if not (isinstance(value, tuple) and value == (0, 1) and all(type(item) is int for item in value)):
                    self.refuses(Refused, value, call, LATE, entries, value, None)
                good = isinstance(value, (list, tuple)) and len(value) == 2 and all(type(item) is int for item in value)
                if not good:
                    self.refuses(Refused, value, call, LATE, entries, seats, value)
            self.refuses(Refused, value, joined_three, LATE, value, None)
            self.refuses(Refused, value, joined_three, LATE, (entries, seats, shift), value)
        for wrong in ([entries, seats, shift], (entries, seats), (entries, seats, shift, 0), (listed(entries), seats, shift),
                      (entries, [0, 1], shift), (entries, seats, (1,)), (entries, seats, (True, 0)), (seats, entries, shift)):
            self.refuses(Refused, wrong, joined_three, LATE, wrong, None)
            self.refuses(Refused, wrong, joined_three, LATE, (entries, seats, [0, -5]), wrong)


if __name__ == "__main__":
    unittest.main()

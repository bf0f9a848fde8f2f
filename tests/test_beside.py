"""Devices side by side, rows as signals, splits, and the part told yes: points [77] to [79]."""

import itertools
import unittest

from backinstep.beside import (
    first_split, is_split, row_device, row_family, split_pieces, union_device, yes_part,
)
from backinstep.devices import Device, cut_device
from backinstep.errors import BadFamily, BadRow, Refused, TooGreat
from backinstep.groupings import joined_grouping
from backinstep.hours import hour_total
from backinstep.sure import is_sure, sure_pairs
from backinstep.twain import beside_device
from backinstep.verdicts import is_yes
from tests.plain import (
    Case, Draw, any_values, clock, end_of, is_tupled, lots_of, pairs_of, plain_round, rows_to, same, small_devices,
)
from tests.test_classes import drawn
from tests.test_groupings import TOLD, joins, plain_grouped, plain_groupings

HUGE = 10 ** 18


class UnionTest(Case):

    def twains(self, seed, many):
        draw = Draw(seed)
        for _ in range(many):
            signals = 1 + draw.below(3)
            yield draw, draw.device(1 + draw.below(3), signals), draw.device(1 + draw.below(3), signals)

    def test_union(self):
        for _, one, other in self.twains(591, 60):
            made = union_device(one=one, other=other)
            self.assertEqual((made.states, made.signals), (one.states + other.states, one.signals))
            for row in rows_to(one.signals, 3):
                ends = [end_of(one, state, row) for state in range(one.states)]
                ends += [one.states + end_of(other, state, row) for state in range(other.states)]
                self.assertEqual(made.effect(row), tuple(ends))

    def test_yes_of_both(self):
        seen = set()
        for draw, one, other in self.twains(592, 120):
            family = draw.family(one)
            both = is_yes(one, family) and is_yes(other, family)
            seen.add(both)
            self.assertEqual(is_yes(union_device(one, other), family), both)
            self.assertEqual(is_yes(beside_device(one, other), family), both)
        self.assertEqual(seen, {True, False})

    def test_refused(self):
        sixty, other = Device([[0] * 59]), Device([[0, 1], [0, 1]])
        self.assertEqual(union_device(sixty, Device([[0]])).states, 60)
        self.refuses(TooGreat, 60, union_device, sixty, Device([[0, 0]]))
        self.refuses(Refused, other, union_device, sixty, other)
        self.refuses(Refused, sixty, union_device, other, sixty)


class RowTest(Case):

    def drawn_rows(self, seed, many):
        draw = Draw(seed)
        for device, family in drawn(seed, many):
            yield device, family, [draw.row(device, draw.below(4)) for _ in range(1 + draw.below(4))]

    def test_row_device(self):
        for device, _, rows in self.drawn_rows(593, 60):
            made = row_device(device=device, rows=tuple(rows))
            self.assertEqual(made, Device([device.effect(row) for row in rows]))
            self.assertEqual(row_device(device, rows), made)
        self.assertEqual(row_device(TOLD, [""] * 5), Device([(0, 1, 2, 3)] * 5))

    def test_row_family(self):
        seen = set()
        for device, family, rows in self.drawn_rows(594, 120):
            for told, plain in ((family, family), (None, [device.signals])):
                lots = [lot for lot in lots_of("abcde"[:len(rows)])
                        if plain_round(plain, "".join(rows["abcde".index(sign)] for sign in lot))]
                least = tuple(lot for lot in lots if not any(set(less) < set(lot) for less in lots))
                self.assertTrue(same(row_family(device=device, rows=rows, family=told), least))
                seen.add(len(least))
            self.assertEqual(row_family(device, tuple(rows)), row_family(device, rows, None))
        self.assertTrue({0, 1, 2} <= seen)

    def test_sure_by_rows(self):
        many = kept = 0
        for device, family, rows in self.drawn_rows(595, 200):
            made, lots = row_device(device, rows), row_family(device, rows, family)
            for pair in sure_pairs(device, family):
                if lots:
                    many += 1
                    self.assertTrue(is_sure(made, lots, pair))
            if is_yes(device) and set("".join(rows)) == set(device.signals):
                kept += 1
                self.assertTrue(is_yes(made))
                self.assertEqual(hour_total(made), hour_total(device))
        self.assertGreater(many, 30)
        self.assertGreater(kept, 20)

    def test_wrong_values(self):
        for value in any_values():
            if not isinstance(value, (list, tuple)) or not 1 <= len(value) <= 5:
                self.refuses(Refused, value, row_device, TOLD, value)
                self.refuses(Refused, value, row_family, TOLD, value, value)
            if not isinstance(value, str):
                self.refuses(BadRow, -1, row_device, TOLD, ["ab", value, "z"])
                self.refuses(BadRow, -1, row_family, TOLD, ("ab", value, "z"), value)
            if value is not None and (not isinstance(value, (list, tuple)) or len(value) == 0):
                self.refuses(BadFamily, -1, row_family, TOLD, ["a"], value)
        self.refuses(Refused, ["a"] * 6, row_device, TOLD, ["a"] * 6)
        self.refuses(Refused, "ab", row_device, TOLD, "ab")
        self.refuses(BadRow, 1, row_device, TOLD, ["a", "ac", 5])
        self.refuses(BadRow, 10000, row_family, TOLD, ["a", "a" * 10001], [])
        self.refuses(BadFamily, 0, row_family, TOLD, [""], ["ba"])


class SplitTest(Case):

    def test_split(self):
        draw = Draw(601)
        seen = set()
        for device in small_devices(601, 80, states=5):
            plain = plain_groupings(device)
            for _ in range(8):
                one, other = draw.one_of(plain), draw.one_of(plain)
                apart = not joins(one) & joins(other)
                seen.add(apart)
                self.assertIs(is_split(device=device, one=list(one), other=other), apart)
                if apart:
                    both = is_yes(plain_grouped(device, one)) and is_yes(plain_grouped(device, other))
                    self.assertEqual(is_yes(device), both)
        self.assertEqual(seen, {True, False})

    def plain_first(self, device):
        groupings = sorted({joined_grouping(device, [pair]) for pair in pairs_of(device)})
        told = [(one, other) for one in groupings for other in groupings if not joins(one) & joins(other)]
        return min(told) if told else None

    def test_first(self):
        seen = set()
        for device in small_devices(602, 120, states=5) + [clock(6, 1), Device([tuple(range(5))])]:
            told = first_split(device=device)
            seen.add(told is None)
            self.assertTrue(same(told, self.plain_first(device)))
        self.assertEqual(seen, {True, False})
        self.assertEqual(first_split(clock(6, 1)), ((0, 1, 0, 1, 0, 1), (0, 1, 2, 0, 1, 2)))

    def test_pieces(self):
        many = set()
        for device in small_devices(603, 100, states=5) + [clock(6, 1), clock(8, 1), Device([(0, 1, 2, 0)]), Device([tuple(range(8))]), Device([[0]])]:
            pieces = split_pieces(device=device)
            many.add(len(pieces))
            self.assertTrue(isinstance(pieces, tuple) and is_tupled(pieces))
            self.assertEqual(list(pieces), sorted(set(pieces)))
            for pair in pairs_of(device):
                self.assertTrue(any(grouping[pair[0]] != grouping[pair[1]] for grouping in pieces))
            for grouping in pieces:
                self.assertEqual(joined_grouping(device, sorted(joins(grouping))), grouping)
                self.assertIsNone(first_split(plain_grouped(device, grouping)))
        self.assertTrue({1, 2, 3} <= many)

    def test_wrong_values(self):
        self.refuses(TooGreat, 8, split_pieces, clock(9, 1))
        for value in any_values():
            if not isinstance(value, (list, tuple)) or len(value) != 4:
                self.refuses(Refused, value, is_split, TOLD, value, None)
                self.refuses(Refused, value, is_split, TOLD, (0, 1, 2, 3), value)
        self.refuses(Refused, (0, 0, 1, 1), is_split, TOLD, (0, 0, 1, 1), (0, 1))
        self.assertIsNone(first_split(Device([[0]])))


class YesPartTest(Case):

    def kept_lots(self, device):
        for many in range(1, device.states + 1):
            for states in itertools.combinations(range(device.states), many):
                if all(table[state] in states for table in device.tables for state in states):
                    yield states

    def test_part(self):
        sizes = set()
        for device, family in drawn(604, 120):
            for told in (family, None):
                good = [states for states in self.kept_lots(device) if is_yes(cut_device(device, states), told)]
                part = yes_part(device=device, family=told)
                self.assertTrue(isinstance(part, tuple))
                self.assertEqual(part, tuple(sorted(set(itertools.chain(*good)))))
                # the greatest lot of states, kept by all signals, that is told yes
                self.assertTrue(part == () or part in good)
                sizes.add((device.states, len(part)))
                self.assertEqual(part == tuple(range(device.states)), is_yes(device, told))
            self.assertEqual(yes_part(device), yes_part(device, [device.signals]))
        self.assertTrue({(4, 4), (4, 0)} <= sizes)
        self.assertTrue(any(0 < part < states for states, part in sizes))

    def test_edges(self):
        self.assertEqual((yes_part(Device([[0]])), yes_part(Device([(1, 0, 2), (0, 2, 1)]))), ((0,), ()))
        self.assertEqual(yes_part(Device([(0, 1), (0, 0)]), ["a", "b"]), (0,))

    def test_wrong_values(self):
        for value in any_values():
            if value is not None and (not isinstance(value, (list, tuple)) or len(value) == 0):
                self.refuses(BadFamily, -1, yes_part, TOLD, value)
        self.refuses(BadFamily, 0, yes_part, TOLD, ["aa"])


if __name__ == "__main__":
    unittest.main()

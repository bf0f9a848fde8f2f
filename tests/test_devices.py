"""Devices, rows, pieces, counts: points [1], [2], [5] to [8]."""

import itertools
import unittest

from backinstep.devices import (
    Device, check_counts, check_pieces, cut_device, effect_left, effect_places, few_signals, joined_effects,
    pieces_counts, pieces_effect, pieces_length, row_counts, row_lot, said_effect,
)
from backinstep.errors import BadCounts, BadDevice, BadPieces, BadRow, NoSignal, NoState, Refused
from tests.plain import Case, Draw, any_values, deep, end_of, is_tupled, rows_to, small_devices

LINE = Device([(0, 0, 1), (0, 1, 2)])
TWIST = Device([(0, 1, 0, 1), (2, 3, 3, 2)])
WIDE = Device([[(state * 7 + sign) % 60 for state in range(60)] for sign in range(5)])


class DeviceTest(Case):

    def test_attributes(self):
        device = Device([[1, 2, 0], (0, 0, 0)])
        self.assertEqual((device.states, device.signals, device.tables), (3, "ab", ((1, 2, 0), (0, 0, 0))))
        self.assertTrue(is_tupled(device.tables))
        self.assertEqual((WIDE.states, WIDE.signals), (60, "abcde"))
        self.assertEqual((Device([[0]]).states, Device([[0]]).signals), (1, "a"))
        self.assertEqual(Device(tables=[[0]]).tables, ((0,),))

    def test_later_changes_have_no_effect(self):
        tables = [[1, 0], [0, 0]]
        device = Device(tables)
        tables[0][0] = 0
        tables.append([1, 1])
        self.assertEqual(device.tables, ((1, 0), (0, 0)))

    def test_no_argument_is_changed(self):
        tables = [[1, 0], [0, 0]]
        Device(tables)
        self.assertEqual(tables, [[1, 0], [0, 0]])

    def test_equal(self):
        self.assertEqual(Device([[0, 0, 1], [0, 1, 2]]), LINE)
        self.assertFalse(Device([(0, 0, 1)]) == LINE)
        self.assertFalse(Device([(0, 0, 2), (0, 1, 2)]) == LINE)
        self.assertTrue(Device([(0, 0, 1)]) != LINE)
        for value in any_values():
            if not isinstance(value, Device):
                self.assertFalse(LINE == value)
                self.assertFalse(value == LINE)

    def test_no_sequence_of_one_to_five(self):
        for value in any_values():
            if not isinstance(value, (list, tuple)) or not 1 <= len(value) <= 5:
                self.refuses(BadDevice, -1, Device, value)
        self.refuses(BadDevice, -1, Device, [[0]] * 6)
        self.refuses(BadDevice, -1, Device, [[7]] * 6)
        self.refuses(BadDevice, -1, Device, [])

    def test_first_table(self):
        for value in any_values():
            good = isinstance(value, (list, tuple)) and len(value) > 0 and all(
                type(item) is int and 0 <= item < len(value) for item in value)
            if good:
                self.assertEqual(Device([value]).tables, (tuple(value),))
            else:
                self.refuses(BadDevice, 0, Device, [value])
                self.refuses(BadDevice, 0, Device, [value, [0]])
        for wrong in ([0, 2], [2, 0], [0, 3], [-1, 0], [0, -2], [1], [0, 1, 3]):
            self.refuses(BadDevice, 0, Device, [wrong])
        self.refuses(BadDevice, 0, Device, [[0] * 61])
        self.refuses(BadDevice, 0, Device, [[0] * 61, [0] * 61])
        self.refuses(BadDevice, 0, Device, [[]])

    def test_later_tables(self):
        for value in any_values():
            good = isinstance(value, (list, tuple)) and len(value) == 2 and all(
                type(item) is int and 0 <= item < 2 for item in value)
            if not good:
                self.refuses(BadDevice, 1, Device, [(0, 1), value])
                self.refuses(BadDevice, 4, Device, [(0, 1), [0, 0], [0, 1], [1, 1], value])
                self.refuses(BadDevice, 2, Device, [(0, 1), [0, 0], value, value])
        for wrong in ([0, 2], [2, 0], [0, 3], [-1, 0], [0, -2]):
            self.refuses(BadDevice, 1, Device, [[1, 0], wrong])
        self.refuses(BadDevice, 1, Device, [list(range(60)), [0] * 59 + [60]])
        self.refuses(BadDevice, 1, Device, [(0, 1), (0, 1, 1)])
        self.refuses(BadDevice, 1, Device, [(0, 1), (0,)])
        self.refuses(BadDevice, 1, Device, [(0, 1), (0, True)])

    def test_step(self):
        for device in small_devices(1, 30):
            for state in range(device.states):
                for at, sign in enumerate(device.signals):
                    self.assertEqual(device.step(state, sign), device.tables[at][state])
                    self.assertEqual(device.step(signal=sign, state=state), device.tables[at][state])

    def test_step_refuses(self):
        for value in any_values():
            if type(value) is not int or not 0 <= value < 3:
                self.refuses(NoState, value, LINE.step, value, "a")
                self.refuses(NoState, value, LINE.step, value, None)
                self.refuses(NoState, value, LINE.after, value, "a")
                self.refuses(NoState, value, LINE.after, value, "z")
            if value not in ("a", "b") or not isinstance(value, str):
                self.refuses(NoSignal, value, LINE.step, 0, value)


class RowTest(Case):

    def test_against_steps(self):
        draw = Draw(2)
        for device in small_devices(2, 40):
            for length in (0, 1, 2, 3, 9):
                row = draw.row(device, length)
                ends = tuple(end_of(device, state, row) for state in range(device.states))
                self.assertEqual(device.effect(row), ends)
                self.assertEqual([device.after(state, row) for state in range(device.states)], list(ends))
                self.assertEqual(device.places(row), tuple(sorted(set(ends))))
                self.assertEqual(device.left_alone(row), tuple(s for s in range(device.states) if ends[s] == s))
                self.assertEqual(row_counts(device, row), tuple(row.count(sign) for sign in device.signals))
                self.assertEqual(row_lot(device, row), "".join(sorted(set(row))))
                self.assertEqual(effect_places(ends), device.places(row))
                self.assertEqual(effect_left(list(ends)), device.left_alone(row))

    def test_told_example(self):
        self.assertEqual(TWIST.left_alone("abab"), (2, 3))
        self.assertEqual(TWIST.left_alone(row="aabb"), ())
        device = Device([(1, 2, 0, 0), (0, 1, 2, 1)])
        self.assertEqual((device.effect("ab"), device.left_alone("aaa")), ((1, 2, 0, 0), (0, 1, 2)))

    def test_empty_row(self):
        self.assertEqual(LINE.effect(""), (0, 1, 2))
        self.assertEqual((LINE.places(""), LINE.left_alone("")), ((0, 1, 2), (0, 1, 2)))
        self.assertEqual((row_counts(LINE, ""), row_lot(LINE, "")), ((0, 0), ""))

    def test_long_rows(self):
        self.assertEqual(WIDE.after(1, "a" * 10000), pow(7, 10000, 60))
        self.assertEqual(row_counts(WIDE, "abcde" * 2000), (2000,) * 5)
        self.assertEqual(len(WIDE.effect("abcde" * 2000)), 60)

    def test_bad_rows(self):
        calls = [
            lambda row: LINE.after(0, row), LINE.effect, LINE.places, LINE.left_alone,
            lambda row: row_counts(LINE, row), lambda row: row_lot(LINE, row),
        ]
        for call in calls:
            for value in any_values():
                if not isinstance(value, str):
                    self.refuses(BadRow, -1, call, value)
            self.refuses(BadRow, 0, call, "c")
            self.refuses(BadRow, 2, call, "abcab")
            self.refuses(BadRow, 1, call, "a b")
            self.refuses(BadRow, 0, call, "Ab")
            self.refuses(BadRow, 2, call, "ab\n")
            self.refuses(BadRow, 10000, call, "a" * 10001)
            self.refuses(BadRow, 10050, call, "a" * 10050 + "c")
            self.refuses(BadRow, 3, call, "aaac" + "b" * 10050)
            call("ab" * 5000)

    def test_joined_effects(self):
        for device in small_devices(3, 20):
            draw = Draw(4)
            one, other = draw.row(device, 3), draw.row(device, 2)
            joined = joined_effects(list(device.effect(one)), other=device.effect(other))
            self.assertEqual(joined, device.effect(one + other))
            self.assertTrue(is_tupled(joined))

    def test_said_effect(self):
        for device in small_devices(5, 30, states=6):
            for sign in device.signals:
                effect = device.effect(sign)
                for times in range(12):
                    self.assertEqual(said_effect(effect, times), device.effect(sign * times))
                period = 2 ** 2 * 3 * 5
                great = 10 ** 18
                self.assertEqual(said_effect(list(effect), great), device.effect(sign * (60 + great % period)))
        self.assertEqual(said_effect((1, 0), 10 ** 18), (0, 1))
        self.assertEqual(said_effect((1, 0), 10 ** 18 - 1), (1, 0))
        self.assertEqual(said_effect(effect=[1, 0], times=0), (0, 1))


def plain_bad_piece(signals, value):
    """The number that tells the first wrong pair, or None; -1 for all of it."""
    if not isinstance(value, (list, tuple)) or len(value) > 200:
        return -1
    whole = 0
    for at, piece in enumerate(value):
        if not isinstance(piece, (list, tuple)) or len(piece) != 2:
            return at
        word, times = piece
        if not isinstance(word, str) or not 1 <= len(word) <= 10000 or not set(word) <= set(signals):
            return at
        if type(times) is not int or times < 1:
            return at
        whole += len(word) * times
        if whole > 10 ** 18:
            return at
    return None


class PiecesTest(Case):

    def test_any_value(self):
        for value in any_values():
            for pieces in (value, [value], [("ab", 2), value], [("ab", value)], ((value, 1),), [["a", 1], [value, 1]]):
                at = plain_bad_piece("ab", pieces)
                if at is None:
                    told = check_pieces(LINE, pieces)
                    self.assertEqual(told, tuple((word, times) for word, times in pieces))
                    self.assertTrue(is_tupled(told))
                else:
                    self.refuses(BadPieces, at, check_pieces, LINE, pieces)
                    self.refuses(BadPieces, at, pieces_effect, LINE, pieces)
                    self.refuses(BadPieces, at, pieces_counts, LINE, pieces)

    def test_edges(self):
        self.assertEqual(check_pieces(LINE, []), ())
        self.assertEqual(check_pieces(LINE, [("a", 1)] * 200), (("a", 1),) * 200)
        self.refuses(BadPieces, -1, check_pieces, LINE, [("a", 1)] * 201)
        self.refuses(BadPieces, -1, check_pieces, LINE, [None] * 201)
        self.assertEqual(check_pieces(LINE, [["a" * 10000, 10 ** 14]]), (("a" * 10000, 10 ** 14),))
        self.refuses(BadPieces, 0, check_pieces, LINE, [["a" * 10001, 1]])
        self.refuses(BadPieces, 0, check_pieces, LINE, [["a", 10 ** 18 + 1]])
        self.refuses(BadPieces, 1, check_pieces, LINE, [["a", 10 ** 18], ["b", 1]])
        self.refuses(BadPieces, 2, check_pieces, LINE, [["a", 10 ** 18 - 4], ["b", 4], ["ab", 1], None])
        self.refuses(BadPieces, 0, check_pieces, LINE, [["", 1]])
        self.refuses(BadPieces, 0, check_pieces, LINE, [["a", 0]])
        self.refuses(BadPieces, 0, check_pieces, LINE, [["a", True]])
        self.refuses(BadPieces, 0, check_pieces, LINE, [["c", 1]])

    def test_sums(self):
        pieces = (("ab", 3), ("b", 2), ("aab", 1))
        row = "abababbbaab"
        for device in small_devices(6, 30):
            if len(device.signals) > 1:
                self.assertEqual(pieces_effect(device, pieces), device.effect(row))
                self.assertEqual(pieces_counts(device, [list(piece) for piece in pieces]), row_counts(device, row))
        self.assertEqual(pieces_length(pieces), len(row))
        self.assertEqual((pieces_length(()), pieces_effect(LINE, ()), pieces_counts(LINE, [])), (0, (0, 1, 2), (0, 0)))

    def test_great(self):
        pieces = check_pieces(WIDE, [("ab" * 5000, 10 ** 13), ("c", 9 * 10 ** 17)])
        self.assertEqual(pieces_length(pieces), 10 ** 18)
        self.assertEqual(pieces_counts(WIDE, pieces), (5 * 10 ** 16, 5 * 10 ** 16, 9 * 10 ** 17, 0, 0))
        clock = Device([[(state + 1) % 7 for state in range(7)]])
        self.assertEqual(pieces_effect(clock, [("a", 10 ** 18)])[0], 10 ** 18 % 7)

    def test_a_later_change_has_no_effect(self):
        pieces = [["a", 1]]
        told = check_pieces(LINE, pieces)
        pieces[0][1] = 5
        pieces.append(None)
        self.assertEqual(told, (("a", 1),))


class CountsTest(Case):

    def test_any_value(self):
        for value in any_values():
            if not isinstance(value, (list, tuple)) or len(value) != 2:
                self.refuses(BadCounts, -1, check_counts, LINE, value)
            if type(value) is not int or not 0 <= value <= 10 ** 18:
                self.refuses(BadCounts, 0, check_counts, LINE, (value, value))
                self.refuses(BadCounts, 1, check_counts, LINE, [0, value])
            else:
                self.assertEqual(check_counts(LINE, [value, 10 ** 18]), (value, 10 ** 18))
        self.refuses(BadCounts, -1, check_counts, LINE, (1, 2, 3))
        self.refuses(BadCounts, 1, check_counts, device=LINE, counts=(10 ** 18, 10 ** 18 + 1))


class PartTest(Case):

    def test_cut_device(self):
        for device in small_devices(7, 40):
            for many in range(device.states + 1):
                for states in itertools.permutations(range(device.states), many):
                    kept = sorted(states)
                    good = many > 0 and all(table[state] in kept for table in device.tables for state in kept)
                    if good:
                        cut = cut_device(device, list(states))
                        tables = tuple(tuple(kept.index(table[state]) for state in kept) for table in device.tables)
                        self.assertEqual(cut, Device(tables))
                    else:
                        self.refuses(Refused, states, cut_device, device, states)

    def test_cut_refuses(self):
        for value in any_values():
            good = isinstance(value, (list, tuple)) and list(value) in ([0], [0, 1], [1, 0], [0, 1, 2]) and all(
                type(item) is int for item in value)
            if good:
                cut_device(LINE, value)
            else:
                self.refuses(Refused, value, cut_device, LINE, value)
        self.refuses(Refused, [0, 0], cut_device, LINE, [0, 0])
        self.refuses(Refused, (0, True), cut_device, LINE, (0, True))

    def test_few_signals(self):
        device = Device([(0, 0), (1, 1), (1, 0)])
        self.assertEqual(few_signals(device, "ac"), Device([(0, 0), (1, 0)]))
        self.assertEqual(few_signals(device, "b"), Device([(1, 1)]))
        self.assertEqual(few_signals(device, lot="abc"), device)
        for value in any_values() + ["ca", "abcd", "d"]:
            if value not in ("a", "b", "c", "ab", "ac", "bc", "abc") or not isinstance(value, str):
                self.refuses(Refused, value, few_signals, device, value)

    def test_few_signals_say_the_same(self):
        for device in small_devices(8, 20):
            if device.signals == "abc":
                few = few_signals(device, "bc")
                for row in rows_to("ab", 3):
                    self.assertEqual(few.effect(row), device.effect(row.replace("b", "c").replace("a", "b")))

    def test_depth(self):
        self.refuses(BadDevice, 0, Device, [deep(39)])


if __name__ == "__main__":
    unittest.main()

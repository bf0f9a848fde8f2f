"""Rounds with equal counts, exchanges, squares: points [43] to [45]."""

import itertools
import unittest

from backinstep.devices import Device, joined_effects, pieces_counts, pieces_effect, row_counts
from backinstep.errors import BadCounts, PaperFault, TooGreat
from backinstep.stories import (
    check_unlike, first_exchange, signals_commute, squares_agree, told_numbers, unlike_holds, unlike_paper,
)
from backinstep.verdicts import is_yes
from tests.plain import CLOCKS, Case, Draw, any_values, bends, is_tupled, listed, rows_to, small_devices

LINE = Device([(0, 0, 1), (0, 1, 2)])
TWIST = Device([(0, 1, 0, 1), (2, 3, 3, 2)])


def left(device, row):
    return len(device.left_alone(row))


def plain_pieces(device, value):
    """The row of any value that is pieces of not too many signals, or None."""
    if not isinstance(value, (list, tuple)) or len(value) > 200:
        return None
    row = ""
    for piece in value:
        if not isinstance(piece, (list, tuple)) or len(piece) != 2:
            return None
        word, times = piece
        if not isinstance(word, str) or word == "" or not set(word) <= set(device.signals) or len(word) > 10000:
            return None
        if type(times) is not int or times < 1:
            return None
        row += word * times
    return row


def unlike_fault(device, value):
    if not isinstance(value, (list, tuple)) or len(value) != 3 or value[0] != "unlike":
        return 0
    rows = [plain_pieces(device, pieces) for pieces in value[1:]]
    if None in rows:
        return 0
    for at, row in enumerate(rows):
        if set(row) != set(device.signals):
            return at + 1
    if sorted(rows[0]) != sorted(rows[1]):
        return 3
    return 4 if left(device, rows[0]) == left(device, rows[1]) else None


class UnlikeTest(Case):

    def look(self, device, value):
        fault = unlike_fault(device, value)
        self.assertIs(unlike_holds(device, value), fault is None)
        if fault is None:
            self.assertIsNone(check_unlike(device, value))
        else:
            self.refuses(PaperFault, fault, check_unlike, device, value)
        return fault

    def test_papers(self):
        told = 0
        for device in small_devices(261, 150) + small_devices(262, 80, 8, 5):
            paper = unlike_paper(device=device)
            self.assertEqual(paper is None, is_yes(device))
            if paper is not None:
                told += 1
                self.assertEqual((paper[0], len(paper), is_tupled(paper)), ("unlike", 3, True))
                self.assertIsNone(check_unlike(device=device, value=paper))
                self.assertIs(unlike_holds(device=device, value=listed(paper)), True)
                one, other = paper[1:]
                self.assertEqual(pieces_counts(device, one), pieces_counts(device, other))
                self.assertNotIn(0, pieces_counts(device, one))
                numbers = [sum(state == end for state, end in enumerate(pieces_effect(device, told))) for told in (one, other)]
                self.assertNotEqual(*numbers)
        self.assertGreater(told, 40)

    def test_many_states(self):
        draw = Draw(263)
        for _ in range(12):
            device = Device([draw.shuffled(range(8)) for _ in range(1 + draw.below(5))])
            paper = unlike_paper(device)
            self.assertEqual(paper is None, is_yes(device))
            self.assertTrue(paper is None or unlike_holds(device, paper))
        self.refuses(TooGreat, 8, unlike_paper, Device([list(range(9))]))
        self.refuses(TooGreat, 8, unlike_paper, Device([[(state + 1) % 9 for state in range(9)], [1, 0] + list(range(2, 9))]))

    def test_long_papers(self):
        """Devices for which a row must stand ahead of the round or behind it."""
        devices = [
            Device([(1, 2, 5, 4, 3, 0), (0, 1, 0, 0, 1, 4)]), Device([(2, 3, 1, 4, 0), (1, 1, 1, 1, 3)]),
            Device([(2, 1, 3, 0), (1, 1, 1, 2)]), Device([(1, 2, 3, 0), (3, 3, 3, 2)])]
        draw = Draw(269)
        for _ in range(100):
            states = 3 + draw.below(6)
            devices.append(Device([draw.table(states) for _ in range(2 + draw.below(2))]))
        shapes = set()
        for device in devices:
            paper = unlike_paper(device)
            self.assertEqual(paper is None, is_yes(device))
            if paper is not None:
                self.assertTrue(unlike_holds(device, paper))
                shapes.add((len(paper[1]), min(len(paper[1][0][0]), 3)))
        self.assertEqual(shapes, {(2, 2), (2, 3), (3, 2), (3, 3)})

    def test_bent(self):
        draw = Draw(264)
        faults = {}
        for device in small_devices(264, 50) + [TWIST]:
            paper = unlike_paper(device)
            if paper is not None:
                for bent in bends(paper, draw, any_values()):
                    if self.small(bent):
                        fault = self.look(device, bent)
                        faults[fault] = faults.get(fault, 0) + 1
        self.assertTrue(all(faults.get(kind, 0) > 10 for kind in (None, 0, 1, 2, 3)), faults)

    def small(self, value):
        """Whether no integer is so great that the row could not be written out."""
        if isinstance(value, (list, tuple)):
            return all(map(self.small, value))
        return type(value) is not int or value < 1000

    def test_faults(self):
        self.assertEqual(self.look(TWIST, ["unlike", [["abab", 1]], [["aabb", 1]]]), None)
        self.assertEqual(self.look(TWIST, ["unlike", [["ab", 2]], [["a", 2], ("b", 2)]]), None)
        self.assertEqual(self.look(TWIST, ["unlike", [["abab", 1]], [["abab", 1]]]), 4)
        self.assertEqual(self.look(TWIST, ["unlike", [["abab", 1]], [["aab", 1]]]), 3)
        self.assertEqual(self.look(TWIST, ["unlike", [["aa", 1]], [["bb", 1]]]), 1)
        self.assertEqual(self.look(TWIST, ["unlike", [["ab", 1]], []]), 2)
        self.assertEqual(self.look(TWIST, ["unlike", [["ab", 0]], [["bb", 1]]]), 0)
        self.assertEqual(self.look(TWIST, ["unlike", [["ab", 1]], [["c", 1]]]), 0)
        self.refuses(PaperFault, 0, check_unlike, TWIST, ("unlike", (("ab", 10 ** 18),), (("ab", 1),)))
        self.assertTrue(unlike_holds(TWIST, ("unlike", (("ab", 2), ("aa", 10 ** 17)), (("aa", 10 ** 17), ("aabb", 1)))))
        for value in any_values():
            for bent in (value, ("unlike", value, [["ab", 1]]), ("unlike", [["ab", 1]], value), ("unlike", [value], [value]),
                         ("unlike", [[value, 1]], [["ab", 1]]), ("unlike", [["ab", 1]], [["ab", value]])):
                if self.small(bent):
                    self.look(TWIST, bent)
                else:
                    self.assertIn(unlike_holds(TWIST, bent), (True, False))
            self.refuses(PaperFault, 0, check_unlike, TWIST, value)

    def test_equal_counts_leave_equally_many_alone(self):
        for device in small_devices(265, 60, signals=2):
            numbers = {}
            for row in rows_to(device.signals, 8):
                if set(row) == set(device.signals):
                    numbers.setdefault(row_counts(device, row), set()).add(left(device, row))
            alike = all(len(told) == 1 for told in numbers.values())
            self.assertTrue(alike or not is_yes(device))
            self.assertTrue(not alike or is_yes(device))

    def test_other_families(self):
        # equal numbers are not enough there
        device = Device([(0, 1), (0, 0)])
        self.assertEqual((is_yes(device), is_yes(device, ["a", "b"])), (True, False))


class ExchangeTest(Case):

    def test_told_example(self):
        self.assertEqual((first_exchange(TWIST), told_numbers(TWIST, (2, 2))), (("ab", "a", "b"), ((0, 4), (2, 2))))

    def test_first_exchange(self):
        found = 0
        for device in small_devices(266, 120) + [clock for clock in CLOCKS if clock.states <= 4]:
            told = first_exchange(device=device)
            self.assertEqual(told is None, is_yes(device))
            length = 4 if told is None else len(told[0])
            plain = None
            for row in rows_to(device.signals, length):
                for one, other in itertools.combinations(device.signals, 2):
                    if plain is None and set(one + other + row) == set(device.signals):
                        if left(device, one + other + row) != left(device, other + one + row):
                            plain = (row, one, other)
            self.assertEqual(told, plain)
            found += told is not None
        self.assertGreater(found, 10)

    def test_told_numbers(self):
        for device in small_devices(267, 50):
            for counts in itertools.product(range(4 if len(device.signals) < 3 else 3), repeat=len(device.signals)):
                rows = set(itertools.permutations("".join(sign * many for sign, many in zip(device.signals, counts))))
                numbers = {}
                for row in rows:
                    many = left(device, "".join(row))
                    numbers[many] = numbers.get(many, 0) + 1
                self.assertEqual(told_numbers(device=device, counts=list(counts)), tuple(sorted(numbers.items())))
        self.assertEqual(told_numbers(Device([[0, 1]]), (499,)), ((2, 1),))
        self.assertEqual(told_numbers(Device([[0, 1]] * 5), (1, 1, 1, 1, 1)), ((2, 120),))

    def test_too_great(self):
        five = Device([list(range(5))] * 2)
        for call in (first_exchange, squares_agree, signals_commute):
            self.refuses(TooGreat, 4, call, five)
        self.refuses(TooGreat, 4, told_numbers, five, (1, 1))
        self.refuses(TooGreat, 4, told_numbers, five, (10 ** 18, 1))
        self.refuses(TooGreat, 500, told_numbers, TWIST, (10 ** 18, 10 ** 18))
        self.refuses(TooGreat, 500, told_numbers, TWIST, (500, 0))
        self.refuses(TooGreat, 500, told_numbers, LINE, [22, 21])
        for value in any_values():
            for device in (LINE, five):
                if not isinstance(value, (list, tuple)) or len(value) != 2:
                    self.refuses(BadCounts, -1, told_numbers, device, value)
                if type(value) is not int or not 0 <= value <= 10 ** 18:
                    self.refuses(BadCounts, 0, told_numbers, device, (value, value))
                    self.refuses(BadCounts, 1, told_numbers, device, [0, value])

    def test_squares(self):
        told = set()
        for device in small_devices(268, 120):
            effects = {}
            queue = [(tuple(range(device.states)), "")]
            for effect, lot in queue:
                for sign, table in zip(device.signals, device.tables):
                    node = (joined_effects(effect, table), "".join(sorted(set(lot + sign))))
                    if node not in effects:
                        effects[node] = True
                        queue.append(node)
            squares = {effect for effect, lot in effects if lot == device.signals and joined_effects(effect, effect) == effect}

            def said(*parts):
                end = parts[0]
                for part in parts[1:]:
                    end = joined_effects(end, part)
                return end

            agree = all(said(one, other, one) == one for one in squares for other in squares)
            commute = all(
                said(square, one, other, square) == said(square, other, one, square)
                for square in squares for one in device.tables for other in device.tables)
            self.assertIs(squares_agree(device=device), agree)
            self.assertIs(signals_commute(device=device), commute)
            self.assertIs(agree and commute, is_yes(device))
            told.add((agree, commute))
        self.assertTrue({(True, True), (False, False)} <= told)

    def test_one_alone_is_not_enough(self):
        # turns of three states that do not commute; and squares that do not agree, though signals commute between them
        turns, apart = Device([(1, 2, 0), (1, 0, 2)]), Device([(0, 0, 2), (0, 2, 1)])
        self.assertEqual((squares_agree(turns), signals_commute(turns), is_yes(turns)), (True, False, False))
        self.assertEqual((squares_agree(apart), signals_commute(apart), is_yes(apart)), (False, True, False))

    def test_all_of_three_states(self):
        tables = list(itertools.product(range(3), repeat=3))
        for one, other in itertools.product(tables[::2], tables[::3]):
            device = Device([one, other])
            yes = is_yes(device)
            self.assertIs(squares_agree(device) and signals_commute(device), yes)
            self.assertIs(first_exchange(device) is None, yes)
            paper = unlike_paper(device)
            self.assertTrue(paper is None if yes else unlike_holds(device, paper))


if __name__ == "__main__":
    unittest.main()

"""Lots of signals, right devices, loads and their papers: points [56] to [61]."""

import fractions
import itertools
import unittest

from backinstep.classes import fewest_notes
from backinstep.devices import Device, few_signals, joined_effects
from backinstep.errors import BadCounts, BadRow, NotYes, Refused
from backinstep.hours import device_hours, hour_total
from backinstep.lots import (
    chain_holds, chain_paper, closed_lot, gather_row, gathering_lots, left_by_counts, lot_hours, lot_levels, lot_table,
    spanning_rows, triangle_holds, triangle_paper, unlike_lot, which_rows, wrong_exchange, wrong_lot,
)
from backinstep.spaces import chain_sizes, is_right, is_which, moved_load
from backinstep.verdicts import is_yes
from tests.plain import (
    CLOCKS, Case, Draw, any_values, bends, is_tupled, listed, lots_of, places_after, rows_to, same, small_devices,
)

FALL = Device([(0, 0, 1), (0, 1, 1)])
CROSS = Device([(1, 0, 2), (0, 2, 1)])
HUGE = 10 ** 18


def told_devices(seed, many=60, states=4, signals=3):
    """Small devices, right ones among them."""
    draw = Draw(seed)
    devices = small_devices(seed, many, states, signals) + [FALL, CROSS, Device([[0]]), Device([[0, 1, 2]] * 2)]
    devices += [clock for clock in CLOCKS if clock.states < 7]
    for clock in CLOCKS[:6]:
        tables = [list(table) + [draw.below(clock.states) for _ in range(2)] for table in clock.tables]
        devices.append(Device(tables))
    return devices


def rank(loads):
    """How many loads are needed to span what some loads span, by fractions."""
    rows = [[fractions.Fraction(number) for number in load] for load in loads]
    many = 0
    for column in range(len(rows[0]) if rows else 0):
        pivot = [row for row in rows if row[column]]
        if pivot:
            many += 1
            first = pivot[0]
            rows = [[number - row[column] / first[column] * less for number, less in zip(row, first)]
                    for row in rows if row is not first]
    return many


def spans(loads, more):
    return rank(list(loads) + [list(more)]) == rank(loads)


def moved(load, table):
    told = [0] * len(load)
    for number, goal in zip(load, table):
        told[goal] += number
    return told


def exchanges(device, load):
    for one, other in itertools.combinations(device.tables, 2):
        yield [a - b for a, b in zip(moved(moved(load, one), other), moved(moved(load, other), one))]


def units(many):
    return [[int(at == place) for place in range(many)] for at in range(many)]


def table_of(effect):
    return [int(state == end) for end in effect for state in range(len(effect))]


def all_lots_of(device):
    return [""] + lots_of(device.signals)


def left(device, row):
    return len(device.left_alone(row))


class LotTest(Case):

    def test_told_example(self):
        table = (("", True, 3, 3), ("a", True, 1, 1), ("b", True, 2, 2), ("ab", True, 1, 1))
        self.assertEqual((lot_table(FALL), lot_levels(FALL)), (table, (("", 1), ("b", 1), ("ab", 1))))
        self.assertEqual(chain_paper(CROSS), ("exchange", "ab", "a", "b"))

    def test_table(self):
        for device in told_devices(321):
            lines = []
            for lot in all_lots_of(device):
                few = few_signals(device, lot) if lot else None
                told = (is_yes(few), hour_total(few), fewest_notes(few, [few.signals])) if lot else (True,) + (device.states,) * 2
                lines.append((lot,) + told)
                self.assertEqual(lot_hours(device=device, lot=lot), told[1])
            self.assertTrue(same(lot_table(device=device), tuple(lines)))
            for line, more in itertools.product(lines, repeat=2):
                self.assertTrue(not set(line[0]) <= set(more[0]) or more[2] <= line[2])
            wrong = [line[0] for line in lines if not line[1]]
            self.assertEqual(wrong_lot(device=device), wrong[0] if wrong else None)
            self.assertIs(is_right(device=device), not wrong)
            sizes = {lot: [hours.size for hours in device_hours(few_signals(device, lot))] for lot in lots_of(device.signals)}
            unlike = [lot for lot, many in sizes.items() if lot in wrong or max(many) > 1]
            self.assertEqual(unlike_lot(device=device), unlike[0] if unlike else None)
            self.assertIs(is_which(device=device), not unlike)

    def test_right_by_all_rows(self):
        told = set()
        for device in told_devices(322, 60, 3):
            numbers, which = {}, {}
            for row in rows_to(device.signals, 7 if len(device.signals) < 3 else 5):
                numbers.setdefault("".join(sorted(row)), set()).add(left(device, row))
                which.setdefault("".join(sorted(set(row))), set()).add(left(device, row))
            alike = all(len(many) == 1 for many in numbers.values())
            self.assertTrue(alike or not is_right(device))
            equal = all(len(many) == 1 for many in which.values())
            self.assertTrue(equal or not is_which(device))
            exchange = wrong_exchange(device)
            self.assertEqual(exchange is None, is_right(device))
            if exchange is not None and len(exchange[0]) <= 3:
                self.assertFalse(alike)
            told.add((is_right(device), is_which(device)))
        self.assertEqual(told, {(True, True), (True, False), (False, False)})

    def test_left_by_counts(self):
        for device in told_devices(323, 30):
            wrong = wrong_lot(device)
            for row in rows_to(device.signals, 4 if wrong is None else 1):
                counts = [row.count(sign) for sign in device.signals]
                if wrong is None:
                    self.assertEqual(left_by_counts(device=device, counts=counts), left(device, row))
                else:
                    self.refuses(NotYes, wrong, left_by_counts, device, counts)
        ring = Device([[1, 2, 3, 4, 5, 0]])
        self.assertEqual([left_by_counts(ring, (many,)) for many in (0, 1, 6, HUGE, HUGE - 4)], [6, 0, 6, 0, 6])

    def test_right_comes_of_right(self):
        draw = Draw(324)
        for device in told_devices(324):
            if is_right(device):
                rows = [draw.row(device, 1 + draw.below(3)) for _ in range(2)]
                self.assertTrue(is_right(Device([device.effect(row) for row in rows])))
                states = device.states
                if states < 6:
                    beside = Device([[table[at // states] * states + table[at % states] for at in range(states ** 2)]
                                     for table in device.tables])
                    self.assertTrue(is_right(beside))
        turns = Device([(1, 0, 2), (1, 0, 2), (0, 2, 1)])
        self.assertEqual((is_right(few_signals(turns, "ab")), wrong_lot(turns)), (True, "ac"))

    def test_spanning_rows(self):
        for device in told_devices(325, 40, 3):
            told = spanning_rows(device=device)
            many = device.states
            self.assertLessEqual(len(told), many * many - many + 1)
            tables, plain = [], []
            for row in rows_to(device.signals, 3):
                table = table_of(device.effect(row))
                if not spans(tables, table):
                    tables.append(table)
                    plain.append(row)
            self.assertEqual(tuple(row for row in told if len(row) <= 3), tuple(plain))
            everything = [table_of(device.effect(row)) for row in told]
            self.assertEqual(rank(everything), len(told))
            for row in told:
                for sign in device.signals:
                    self.assertTrue(spans(everything, table_of(device.effect(row + sign))))

    def test_wrong_exchange(self):
        for device in told_devices(326, 100):
            told = wrong_exchange(device=device)
            if told is None:
                continue
            row, one, other = told
            self.assertTrue(one < other and row in spanning_rows(device))
            for plain in rows_to(device.signals, len(row)):
                fails = [(x, y) for x, y in itertools.combinations(device.signals, 2)
                         if left(device, x + y + plain) != left(device, y + x + plain)]
                if fails:
                    self.assertEqual((row, one, other), (plain,) + fails[0])
                    break

    def test_wrong_values(self):
        for value in any_values() + ["ba", "ac", "abc"]:
            if not isinstance(value, str) or value not in ("", "a", "b", "ab"):
                self.refuses(Refused, value, lot_hours, FALL, value)
                self.refuses(Refused, value, closed_lot, FALL, value)
                self.refuses(Refused, value, closed_lot, CROSS, value)
            for device in (FALL, CROSS):
                if not isinstance(value, (list, tuple)) or len(value) != 2:
                    self.refuses(BadCounts, -1, left_by_counts, device, value)
                if type(value) is not int or not 0 <= value <= HUGE:
                    self.refuses(BadCounts, 1, left_by_counts, device, (0, value))
        self.refuses(NotYes, "ab", left_by_counts, CROSS, (0, 0))
        self.refuses(NotYes, "ab", closed_lot, CROSS, "a")
        for call in (lot_levels, gathering_lots, gather_row):
            self.refuses(NotYes, "ab", call, CROSS)


class LoadTest(Case):

    def test_moved_load(self):
        draw = Draw(327)
        for device in told_devices(327, 30):
            load = [draw.below(9) - 4 for _ in range(device.states)]
            for row in rows_to(device.signals, 3):
                plain = list(load)
                for sign in row:
                    plain = moved(plain, device.tables["abc".index(sign)])
                self.assertEqual(moved_load(device=device, load=tuple(load), row=row), tuple(plain))
        self.assertEqual(moved_load(FALL, [HUGE, -HUGE, HUGE], "aab"), (HUGE, 0, 0))

    def test_wrong_loads(self):
        for value in any_values():
            good = isinstance(value, (list, tuple)) and len(value) == 3 and all(type(item) is int for item in value)
            if not good:
                self.refuses(Refused, value, moved_load, FALL, value, None)
            if not isinstance(value, str):
                self.refuses(BadRow, -1, moved_load, FALL, (1, -2, HUGE), value)
        self.refuses(BadRow, 1, moved_load, FALL, (0, 0, 0), "ac")
        self.refuses(Refused, (0, 0, True), moved_load, FALL, (0, 0, True), "a")

    def plain_chain(self, device):
        """Loads that span U0, U1, .. to the first that stays."""
        chain = [units(device.states)]
        while True:
            loads = []
            queue = [more for load in chain[-1] for more in exchanges(device, load)]
            for load in queue:
                if not spans(loads, load) if loads else any(load):
                    loads.append(load)
                    queue += [moved(load, table) for table in device.tables]
            if len(loads) == len(chain[-1]):
                return chain
            chain.append(loads)

    def test_chain_sizes(self):
        for device in told_devices(328):
            told = chain_sizes(device=device)
            chain = self.plain_chain(device)
            self.assertEqual(told, tuple(map(len, chain)))
            self.assertEqual(told[-1] == 0, is_right(device))
            self.assertEqual(list(told), sorted(set(told), reverse=True))
        self.assertEqual((chain_sizes(Device([[0]])), chain_sizes(FALL), chain_sizes(CROSS)), ((1, 0), (3, 1, 0), (3, 2)))
        # only what is at the first state minds the order
        self.assertEqual(chain_sizes(Device([(1, 1, 2), (2, 1, 2)])), (3, 1, 0))

    def plain_holds(self, device, value):
        seq = (list, tuple)
        if not isinstance(value, seq) or not value or not isinstance(value[0], str):
            return False
        if value[0] == "exchange" and len(value) == 4:
            _, row, one, other = value
            for sign in (one, other):
                if not isinstance(sign, str) or sign not in list(device.signals):
                    return False
            if not isinstance(row, str) or len(row) > 9998 or not set(row) <= set(device.signals) or one >= other:
                return False
            straight, turned = device.effect(one + other), device.effect(other + one)
            ends = [joined_effects(told, device.effect(row)) for told in (straight, turned)]
            return len({sum(at == end for at, end in enumerate(told)) for told in ends}) == 2
        if value[0] != "chain" or len(value) != 2 or not isinstance(value[1], seq) or not 1 <= len(value[1]) <= 60:
            return False
        for loads in value[1]:
            if not isinstance(loads, seq):
                return False
            for load in loads:
                if not isinstance(load, seq) or len(load) != device.states or any(type(item) is not int for item in load):
                    return False
        before = units(device.states)
        for loads in value[1]:
            needed = [more for load in before for more in exchanges(device, load)]
            needed += [moved(load, table) for load in loads for table in device.tables]
            if not all(spans(loads, more) if loads else not any(more) for more in needed):
                return False
            before = loads
        return len(value[1][-1]) == 0

    def test_chain_papers(self):
        for device in told_devices(329):
            paper = chain_paper(device=device)
            self.assertTrue(is_tupled(paper) and self.plain_holds(device, paper))
            self.assertIs(chain_holds(device=device, value=paper), True)
            self.assertIs(chain_holds(device, listed(paper)), True)
            self.assertEqual(paper[0], "chain" if is_right(device) else "exchange")
            if paper[0] == "exchange":
                self.assertEqual(paper[1:], wrong_exchange(device))
            else:
                self.assertEqual([rank(loads) for loads in paper[1]], list(chain_sizes(device)[1:]))
                self.assertEqual(paper[1][-1], ())

    def test_bent_chains(self):
        draw = Draw(330)
        many = held = 0
        for device in told_devices(330, 30, 4, 2):
            for bent in bends(chain_paper(device), draw, any_values()):
                holds = self.plain_holds(device, bent)
                many, held = many + 1, held + holds
                self.assertIs(chain_holds(device, bent), holds)
                if holds:
                    self.assertIs(is_right(device), bent[0] == "chain")
        self.assertGreater(many - held, 500)
        self.assertGreater(held, 100)

    def test_any_chain(self):
        for value in any_values():
            for bent in (value, ("chain", value), ("chain", [value, []]), ("chain", [[value], []]), ("exchange", value, "a", "b"),
                         ("exchange", "ab", value, "b"), ("exchange", "ab", "a", value), ("chain", [[[value, 0, 0]], []])):
                for device in (FALL, CROSS):
                    self.assertIs(chain_holds(device, bent), self.plain_holds(device, bent))
        self.assertTrue(chain_holds(FALL, ["chain", [[[3, -3, 0], [1, -1, 0], [0, 0, 0]], [[0, 0, 0]], []]]))
        self.assertTrue(chain_holds(FALL, ["chain", [[[1, -1, 0], [0, 1, -1]], [[1, -1, 0]], []]]))
        self.assertFalse(chain_holds(FALL, ["chain", [[[1, -1, 0]]]]))
        self.assertFalse(chain_holds(FALL, ["chain", [[[0, 1, -1]], []]]))
        self.assertFalse(chain_holds(FALL, ["chain", []]))
        still = Device([[0, 1]])
        self.assertTrue(chain_holds(still, ["chain", [[]] * 60]))
        self.assertFalse(chain_holds(still, ["chain", [[]] * 61]))
        self.assertTrue(chain_holds(still, ["chain", [[[HUGE, -HUGE]] * 4000, []]]))
        self.assertTrue(chain_holds(CROSS, ["exchange", "ab" * 4999, "a", "b"]) is self.plain_holds(
            CROSS, ["exchange", "ab" * 4999, "a", "b"]))
        self.assertTrue(chain_holds(CROSS, ["exchange", "ab" + "aa" * 4998, "a", "b"]))
        self.assertFalse(chain_holds(CROSS, ["exchange", "ab" + "aa" * 4999, "a", "b"]))
        self.assertFalse(chain_holds(CROSS, ["exchange", "ab", "b", "a"]))
        idle = Device(list(CROSS.tables) + [(0, 1, 2)])
        self.assertTrue(chain_holds(idle, ["exchange", "ab" + "c" * 9996, "a", "b"]))
        self.assertFalse(chain_holds(idle, ["exchange", "ab" + "c" * 9997, "a", "b"]))


class WhichTest(Case):

    def test_which_rows(self):
        for device in told_devices(331, 100):
            rows = which_rows(device=device)
            self.assertEqual(rows is None, is_which(device))
            if rows is not None:
                self.assertEqual((type(rows), len(rows), set(rows[0])), (tuple, 2, set(rows[1])))
                self.assertNotEqual(left(device, rows[0]), left(device, rows[1]))
        self.assertIsNone(which_rows(Device([[0]])))
        wide = Device([[(state + 1) % 60 for state in range(60)]])
        one, other = which_rows(wide)
        self.assertNotEqual(left(wide, one), left(wide, other))

    def plain_holds(self, device, value):
        seq = (list, tuple)
        if not isinstance(value, seq) or len(value) != 2 or not isinstance(value[0], str) or value[0] != "triangle":
            return False
        if not isinstance(value[1], seq) or len(value[1]) != device.states:
            return False
        before = []
        for row in value[1]:
            if not isinstance(row, seq) or len(row) != 2 or not isinstance(row[0], seq) or len(row[0]) != device.states:
                return False
            load, lot = row
            if any(type(number) is not int for number in load) or not isinstance(lot, str) or lot not in all_lots_of(device):
                return False
            if spans(before, load) if before else not any(load):
                return False
            for sign, table in zip(device.signals, device.tables):
                ahead = [number - (sign in lot) * less for number, less in zip(moved(load, table), load)]
                if not (spans(before, ahead) if before else not any(ahead)):
                    return False
            before.append(load)
        return True

    def test_triangles(self):
        many = 0
        for device in told_devices(332, 150):
            if unlike_lot(device) is not None:
                self.refuses(NotYes, unlike_lot(device), triangle_paper, device)
                continue
            many += 1
            paper = triangle_paper(device=device)
            self.assertTrue(is_tupled(paper) and self.plain_holds(device, paper))
            self.assertIs(triangle_holds(device=device, value=paper), True)
            self.assertIs(triangle_holds(device, listed(paper)), True)
            for row in rows_to(device.signals, 3):
                self.assertEqual(left(device, row), sum(set(row) <= set(lot) for _, lot in paper[1]))
            levels = {}
            for _, lot in paper[1]:
                levels[lot] = levels.get(lot, 0) + 1
            self.assertEqual(dict(lot_levels(device)), levels)
        self.assertGreater(many, 40)

    def test_bent_triangles(self):
        draw = Draw(333)
        many = held = 0
        for device in told_devices(333, 60, 4, 2):
            if is_which(device):
                for bent in bends(triangle_paper(device), draw, any_values()):
                    holds = self.plain_holds(device, bent)
                    many, held = many + 1, held + holds
                    self.assertIs(triangle_holds(device, bent), holds)
        self.assertGreater(many - held, 1000)
        self.assertGreater(held, 100)

    def test_any_triangle(self):
        good = [[[-1, 1, 0], "b"], [[1, 0, 0], "ab"], [[0, 0, 1], ""]]
        self.assertTrue(triangle_holds(FALL, ["triangle", good]))
        self.assertFalse(triangle_holds(FALL, ["triangle", good[::-1]]))
        for value in any_values():
            for bent in (value, ("triangle", value), (value, good), ("triangle", [value] + good[1:]), ("triangle", good + [value]),
                         ("triangle", [[value, "b"]] + good[1:]), ("triangle", [[[-1, 1, 0], value]] + good[1:]),
                         ("triangle", [[[-1, 1, value], "b"]] + good[1:])):
                self.assertIs(triangle_holds(FALL, bent), self.plain_holds(FALL, bent))


class LevelTest(Case):

    def test_levels(self):
        for device in told_devices(334, 80):
            if not is_right(device):
                for call in (lot_levels, gathering_lots, gather_row):
                    self.refuses(NotYes, wrong_lot(device), call, device)
                self.refuses(NotYes, wrong_lot(device), closed_lot, device, "")
                continue
            hours = {lot: lot_hours(device, lot) for lot in all_lots_of(device)}
            levels = {}
            for lot in hours:
                parts = [(-1) ** (len(more) - len(lot)) * many for more, many in hours.items() if set(lot) <= set(more)]
                levels[lot] = sum(parts)
                self.assertGreaterEqual(levels[lot], 0)
            told = tuple((lot, level) for lot, level in levels.items() if level)
            self.assertEqual(lot_levels(device=device), told)
            for lot, many in hours.items():
                self.assertEqual(many, sum(level for more, level in told if set(lot) <= set(more)))
                alike = [more for more in hours if set(lot) <= set(more) and hours[more] == many]
                self.assertEqual(closed_lot(device=device, lot=lot), max(alike, key=len))
                self.assertTrue(all(set(more) <= set(closed_lot(device, lot)) for more in alike))
            full = [lot for lot in hours if hours[lot] == hours[device.signals]]
            least = [lot for lot in full if not any(set(less) < set(lot) for less in full)]
            self.assertEqual(gathering_lots(device=device), tuple(least))

    def test_gather_row(self):
        for device in told_devices(335, 80):
            if is_right(device):
                row = gather_row(device=device)
                many = hour_total(device)
                self.assertLessEqual(len(row), device.states - many)
                for told in rows_to(device.signals, len(row)):
                    taken = len(places_after(device, range(device.states), told))
                    self.assertGreaterEqual(taken, many)
                    if taken == many:
                        self.assertEqual(told, row)
                        break
        self.assertEqual((gather_row(Device([[0]])), gather_row(FALL), gathering_lots(Device([[1, 0]]))), ("", "aa", ("",)))


if __name__ == "__main__":
    unittest.main()

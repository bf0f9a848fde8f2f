"""Devices told yes and told no, and their papers: points [39] to [42]."""

import unittest

from backinstep.classes import fewest_notes
from backinstep.devices import Device, joined_effects, row_counts
from backinstep.errors import BadFamily, NotYes, PaperFault
from backinstep.forms import doubled_signal, renamed_device, swapped_signals
from backinstep.hours import device_hours, hour_name, hour_total, like_pairs
from backinstep.verdicts import (
    check_no, check_yes, is_yes, need_yes, no_holds, no_paper, verdict_holds, verdict_paper, wrong_knots, yes_holds,
    yes_paper,
)
from backinstep.webs import Web, outsiders
from tests.plain import (
    CLOCKS, Case, Draw, any_values, bends, end_of, is_tupled, listed, lots_of, pair_end, places_after, plain_most,
    plain_round, plain_rounds, rows_to, small_devices,
)
from tests.test_classes import drawn

LINE = Device([(0, 0, 1), (0, 1, 2)])
TWIST = Device([(0, 1, 0, 1), (2, 3, 3, 2)])
BAR = Device([(0, 0, 1), (0, 0, 2)])


def plain_yes(device, family):
    outside = outsiders(device)

    def step(place, sign):
        goal = end_of(device, place, sign)
        return goal if goal in outside else None

    kept = [state for state in outside if plain_most(device, family, state, step) is None]
    apart = [pair for pair in like_pairs(device) if plain_rounds(device, family, pair) is None]
    return not kept and not apart


def nodes_of(device):
    return list(outsiders(device)) + list(like_pairs(device))


def node_end(device, node, sign):
    """The node to which a signal leads a node, None if it is none."""
    if isinstance(node, tuple):
        return pair_end(device, node, sign)
    goal = end_of(device, node, sign)
    return goal if goal in outsiders(device) else None


def told_node(device, value):
    if isinstance(value, list):
        value = tuple(value)
    if isinstance(value, tuple):
        good = len(value) == 2 and all(type(state) is int for state in value) and value in like_pairs(device)
        return value if good else None
    return value if type(value) is int and value in outsiders(device) else None


def yes_fault(device, family, value):
    """What the check of yes papers tells, anew: None or the fault."""
    seq = (list, tuple)
    if not isinstance(value, seq) or len(value) != 3 or value[0] != "yes":
        return 0
    _, heights, lacks = value
    if not isinstance(heights, seq) or any(not isinstance(item, seq) or len(item) != 2 for item in heights):
        return 0
    if not isinstance(lacks, seq) or any(not isinstance(lot, str) or lot not in [""] + lots_of(device.signals) for lot in lacks):
        return 0
    table = {}
    for at, (place, height) in enumerate(heights):
        node = told_node(device, place)
        if node is None or node in table or type(height) is not int or not 0 <= height < len(lacks):
            return at + 1
        table[node] = height
    for at, (node, height) in enumerate(table.items()):
        for sign in device.signals:
            goal = node_end(device, node, sign)
            if goal is not None and not table.get(goal, 10 ** 9) <= height - (sign in lacks[height]):
                return at + 1
    if len(table) < len(nodes_of(device)):
        return -1
    for at, lack in enumerate(lacks):
        if not all(set(lack) & set(lot) for lot in family):
            return len(table) + 1 + at
    return None


def no_fault(device, family, value):
    seq = (list, tuple)
    if not isinstance(value, seq) or len(value) != 3 or value[0] != "no":
        return 0
    node, again = told_node(device, value[1]), value[2]
    if node is None:
        return 1
    if not isinstance(again, str) or len(again) > 10000 or not set(again) <= set(device.signals):
        return 2
    states = node if isinstance(node, tuple) else (node,)
    kept = all(end_of(device, state, again) == state for state in states)
    return None if kept and plain_round(family, again) else 2


class VerdictTest(Case):

    def test_told_example(self):
        self.assertEqual((is_yes(LINE), is_yes(TWIST)), (True, False))
        self.assertEqual((TWIST.left_alone("abab"), TWIST.left_alone("aabb")), ((2, 3), ()))

    def test_by_plain_searches(self):
        yes = 0
        for device, family in drawn(241, 150):
            for told in (family, None):
                plain = plain_yes(device, told or [device.signals])
                self.assertIs(is_yes(device=device, family=told), plain)
                yes += plain
            self.assertIs(is_yes(device), is_yes(device, (device.signals,)))
        self.assertTrue(60 < yes < 240)

    def test_wrong_knots(self):
        for device, family in drawn(242, 120):
            told = []
            for kind, web in (("out", Web(device, "states")), ("pair", Web(device, "pairs"))):
                for knot, held in zip(web.knots, web.held):
                    if knot[0] in nodes_of(device) and plain_round(family, held):
                        told.append((kind, knot))
            self.assertEqual(wrong_knots(device=device, family=tuple(family)), tuple(told))
            self.assertIs(is_yes(device, family), told == [])
            if told:
                self.refuses(NotYes, told[0][1][0], need_yes, device, family)
            else:
                self.assertIsNone(need_yes(device=device, family=family))
        self.assertEqual(wrong_knots(BAR, ["b"]), (("out", (2,)),))
        self.assertEqual(wrong_knots(BAR), ())
        self.refuses(NotYes, 2, need_yes, BAR, ["b"])
        self.refuses(NotYes, (0, 1), need_yes, TWIST)

    def test_edges(self):
        one = Device([[0]])
        self.assertEqual((wrong_knots(one), is_yes(one), need_yes(one, None)), ((), True, None))
        self.assertEqual((yes_paper(one), no_paper(one), verdict_paper(one)), (("yes", (), ()), None, ("yes", (), ())))
        for clock in CLOCKS:
            self.assertTrue(is_yes(clock) and is_yes(clock, list(clock.signals)))

    def test_renamed_swapped_doubled(self):
        draw = Draw(243)
        for device in small_devices(243, 60):
            names = draw.shuffled(range(device.states))
            signals = "".join(draw.shuffled(device.signals))
            made = [renamed_device(device, names), swapped_signals(device, signals), doubled_signal(device, "a")]
            for other in made:
                self.assertIs(is_yes(other), is_yes(device))
                self.assertEqual(fewest_notes(other, [other.signals]), fewest_notes(device, [device.signals]))
                self.assertEqual(hour_total(other), hour_total(device))

    def test_wrong_families(self):
        for value in any_values():
            if value is not None and (not isinstance(value, (list, tuple)) or len(value) == 0):
                for call in (wrong_knots, is_yes, need_yes, yes_paper, no_paper, verdict_paper):
                    self.refuses(BadFamily, -1, call, LINE, value)
                for call in (check_yes, yes_holds, check_no, no_holds, verdict_holds):
                    self.refuses(BadFamily, -1, call, LINE, value, None)
            if not isinstance(value, str) or value not in ("a", "b", "ab"):
                for call in (wrong_knots, is_yes, need_yes, yes_paper, no_paper, verdict_paper):
                    self.refuses(BadFamily, 1, call, LINE, ["a", value])


class YesPaperTest(Case):

    def test_papers(self):
        for device, family in drawn(244, 120):
            paper = yes_paper(device=device, family=family)
            self.assertEqual(paper is None, not is_yes(device, family))
            if paper is not None:
                self.assertEqual((paper[0], [entry[0] for entry in paper[1]]), ("yes", nodes_of(device)))
                self.assertTrue(is_tupled(paper))
                self.assertIsNone(yes_fault(device, family, paper))
                self.assertIsNone(check_yes(device=device, family=family, value=paper))
                turned = ["yes", listed(paper[1])[::-1], list(paper[2])]
                self.assertIs(yes_holds(device=device, family=family, value=turned), True)
                self.assertEqual(verdict_paper(device, family), paper)
                self.assertIs(verdict_holds(device, family, paper), True)

    def look(self, device, family, value):
        fault = yes_fault(device, family or [device.signals], value)
        self.assertIs(yes_holds(device, family, value), fault is None)
        if fault is None:
            self.assertIsNone(check_yes(device, family, value))
            self.assertTrue(is_yes(device, family) and verdict_holds(device, family, value))
        else:
            self.refuses(PaperFault, fault, check_yes, device, family, value)
        return fault

    def test_bent(self):
        draw = Draw(245)
        faults = {}
        for device, family in drawn(245, 60):
            paper = yes_paper(device, family)
            if paper is not None:
                for bent in bends(paper, draw, any_values()):
                    fault = self.look(device, family, bent)
                    kind = "late" if fault is not None and fault > len(nodes_of(device)) else fault
                    faults[kind] = faults.get(kind, 0) + 1
        self.assertTrue(all(faults.get(kind, 0) > 10 for kind in (None, 0, 1, 2, -1, "late")), faults)

    def test_faults_in_their_order(self):
        good = ["yes", [[2, 1], [1, 0]], ["a", "a"]]
        self.assertEqual(self.look(LINE, None, good), None)
        self.assertEqual(self.look(LINE, ["a"], good), None)
        self.assertEqual(self.look(LINE, ["ab", "b"], good), 3)
        self.assertEqual(self.look(LINE, ["ab", "b"], ["yes", good[1], ["ab", "a"]]), 2)
        self.assertEqual(self.look(LINE, None, ["yes", good[1], ["a", "a", ""]]), 5)
        self.assertEqual(self.look(LINE, None, ["yes", good[1], ["a", "a", "c"]]), 0)
        self.assertEqual(self.look(LINE, None, ["yes", good[1][:1], ["a", "a"]]), 1)
        self.assertEqual(self.look(LINE, None, ["yes", good[1][1:], ["a", "a"]]), -1)
        self.assertEqual(self.look(LINE, None, ["yes", good[1] + [[0, 0]], ["a", "a"]]), 3)
        self.assertEqual(self.look(LINE, None, ["yes", good[1] + [[1, 0]], ["a", "a"]]), 3)
        self.assertEqual(self.look(LINE, None, ["yes", [[2, 2], [1, 0]], ["a", "a"]]), 1)
        self.assertEqual(self.look(LINE, None, ["yes", [[2, 0], [1, 0]], ["a", "a"]]), 1)
        self.assertEqual(self.look(LINE, None, ["yes", [[1, 1], [2, 0]], ["a", "a"]]), 2)
        self.assertEqual(self.look(LINE, None, ["yes", [[2, True], [1, 0]], ["a", "a"]]), 1)
        self.assertEqual(self.look(LINE, None, ["yes", [[2, 1], [True, 0]], ["a", "a"]]), 2)
        self.assertEqual(self.look(LINE, None, ["yes", [[2, 1], [1, 0], []], ["a", "a"]]), 0)

    def test_any_value(self):
        for value in any_values():
            for bent in (value, ("yes", value, ()), ("yes", (), value), ["yes", [value], ["a"]], (value, (), ()),
                         ["yes", [[value, 0]], ["a"]], ["yes", [[1, value]], ["a"]], ["yes", [[1, 0]], [value]]):
                self.look(LINE, None, bent)
                self.look(TWIST, ["a"], bent)


class NoPaperTest(Case):

    def test_papers(self):
        turned = 0
        for device, family in drawn(246, 150):
            paper = no_paper(device=device, family=family)
            self.assertEqual(paper is None, is_yes(device, family))
            if paper is not None:
                self.assertTrue(is_tupled(paper))
                self.assertIsNone(no_fault(device, family, paper))
                self.assertIsNone(check_no(device=device, family=family, value=paper))
                self.assertIs(no_holds(device=device, family=family, value=listed(paper)), True)
                self.assertEqual(verdict_paper(device=device, family=family), paper)
                self.assertIs(verdict_holds(device=device, family=family, value=paper), True)
                half = paper[2][:len(paper[2]) // 2]
                turned += half + half == paper[2]
        self.assertGreater(turned, 3)

    def look(self, device, family, value):
        fault = no_fault(device, family or [device.signals], value)
        self.assertIs(no_holds(device, family, value), fault is None)
        if fault is None:
            self.assertIsNone(check_no(device, family, value))
            self.assertTrue(not is_yes(device, family) and verdict_holds(device, family, value))
        else:
            self.refuses(PaperFault, fault, check_no, device, family, value)
        return fault

    def test_bent(self):
        draw = Draw(247)
        faults = {}
        for device, family in drawn(247, 150):
            paper = no_paper(device, family)
            if paper is not None:
                for bent in bends(paper, draw, any_values()):
                    fault = self.look(device, family, bent)
                    faults[fault] = faults.get(fault, 0) + 1
        self.assertTrue(all(faults[kind] > 50 for kind in (None, 0, 1, 2)), faults)

    def test_any_value(self):
        good = ("no", (0, 1), "abab")
        for value in any_values():
            self.look(TWIST, None, value)
            for at in range(3):
                self.look(TWIST, None, good[:at] + (value,) + good[at + 1:])
        self.assertEqual(self.look(TWIST, None, ["no", [0, 1], "a"]), 2)
        self.assertEqual(self.look(TWIST, ["a"], ["no", [0, 1], "a"]), None)
        self.assertEqual(self.look(TWIST, ["a"], ["no", [0, 1], "a" * 10000]), None)
        self.assertEqual(self.look(TWIST, ["a"], ["no", [0, 1], "a" * 10001]), 2)
        self.assertEqual(self.look(BAR, ["b"], ("no", 2, "b")), None)
        self.assertEqual(self.look(BAR, ["b"], ("no", 1, "b")), 2)
        self.assertEqual(self.look(BAR, ["b"], ("no", 0, "b")), 1)

    def test_forty_states(self):
        draw = Draw(248)
        turning = [Device([[(state + 1) % 40 for state in range(40)], [1, 0] + list(range(2, 40))]), draw.device(40, 5),
                   Device([draw.shuffled(range(40)) for _ in range(5)]), draw.clocked(40, 5), draw.device(40, 5)]
        for device in turning:
            paper = verdict_paper(device)
            self.assertTrue(verdict_holds(device, None, paper))
            self.assertIs(is_yes(device), paper[0] == "yes")
        self.assertFalse(is_yes(turning[0]))


class SameTest(Case):
    """Point [42]: what is one and the same as being told yes."""

    def drawn(self, seed, many, states, signals):
        return [(device, family) for device, family in drawn(seed, many, states, signals) if device.states > 1]

    def test_states_taken_behind_rounds(self):
        for device, family in self.drawn(251, 80, 4, 3):
            many = device.states - hour_total(device)
            names = sorted(hour_name(device, state) for state in range(device.states) if hour_name(device, state))
            hours = sorted(set(names))
            start = (tuple(range(device.states)), frozenset(), 0)
            queue, seen, fits = [start], {start}, True
            for states, given, cuts in queue:
                if cuts == many:
                    told = sorted(hour_name(device, state) or (-1, ()) for state in states)
                    fits = fits and told == hours
                if is_yes(device, family) and cuts <= many:
                    self.assertLessEqual(len(states), device.states - cuts)
                self.assertTrue(set(hours) <= {hour_name(device, state) for state in states})
                for sign in device.signals:
                    more, count = given | {sign}, cuts
                    if plain_round(family, more):
                        more, count = frozenset(), min(cuts + 1, many)
                    node = (places_after(device, states, sign), more, count)
                    if node not in seen:
                        seen.add(node)
                        queue.append(node)
            self.assertIs(fits, is_yes(device, family))

    def test_states_left_alone_by_rounds(self):
        for device, family in self.drawn(252, 60, 3, 3):
            fits = True
            hours = device_hours(device)
            start = (tuple(range(device.states)), (0,) * len(device.signals))
            queue, seen = [start], {start}
            for effect, counts in queue:
                lot = "".join(sign for sign, count in zip(device.signals, counts) if count)
                if plain_round(family, lot):
                    alone = sum(told.size for told in hours if told.is_kept(counts))
                    fits = fits and alone == sum(state == end for state, end in enumerate(effect))
                for at, table in enumerate(device.tables):
                    # counts are told up to what all staircases hold, and from 1 on whether there is any
                    more = counts[at] + 1 if counts[at] < 12 else 1
                    node = (joined_effects(effect, table), counts[:at] + (more,) + counts[at + 1:])
                    if node not in seen:
                        seen.add(node)
                        queue.append(node)
            self.assertIs(fits, is_yes(device, family))

    def test_squares(self):
        for device, family in self.drawn(253, 40, 3, 2):
            effects = {}
            for row in rows_to(device.signals, 6):
                effects.setdefault(device.effect(row), []).append(row)
            fits = True
            for row in rows_to(device.signals, 4):
                if plain_round(family, row):
                    square = device.effect(row * 6)
                    self.assertEqual(joined_effects(square, square), square)
                    by_counts = {}
                    for effect, rows in effects.items():
                        end = joined_effects(joined_effects(square, effect), square)
                        for told in rows:
                            by_counts.setdefault(row_counts(device, told), set()).add(end)
                    ends = set.union(*by_counts.values())
                    undone = all(any(joined_effects(one, other) == square for other in ends) for one in ends)
                    fits = fits and undone and all(len(told) == 1 for told in by_counts.values())
            self.assertIs(fits, is_yes(device, family))


if __name__ == "__main__":
    unittest.main()

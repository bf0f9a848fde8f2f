"""Fates of two copies: points [83] and [84]."""

import unittest

from backinstep.devices import Device
from backinstep.errors import BadFamily, NoState
from backinstep.fates import fate_holds, fate_paper, fate_pairs, pair_fate
from backinstep.hours import hour_name
from backinstep.sure import apart_holds, is_sure, sure_holds
from tests.plain import (
    CLOCKS, Case, Draw, any_values, bends, is_tupled, listed, pair_end, pairs_of, reached_pairs, same,
)
from tests.test_classes import drawn
from tests.test_notes import is_plain_pair, is_plain_row

TOLD = Device([(1, 2, 3, 0, 0), (0, 1, 2, 3, 0)])
KINDS = ("one", "sure", "chance", "open", "never")
# a pair of each fate: sure (0, 3), chance (0, 1), open (0, 5), never (0, 4)
MANY = Device([(1, 2, 0, 1, 4, 4), (1, 1, 2, 1, 4, 0)])


def is_joined(device, pair):
    return any(pair_end(device, place, sign) is None for place in reached_pairs(device, pair) for sign in device.signals)


def plain_fate(device, family, pair):
    if pair[0] == pair[1]:
        return "one"
    pair = tuple(sorted(pair))
    if is_sure(device, family, pair):
        return "sure"
    if all(is_joined(device, place) for place in reached_pairs(device, pair)):
        return "chance"
    return "open" if is_joined(device, pair) else "never"


class FateTest(Case):

    def fated(self, seed, many):
        yield MANY, ["ab"]
        yield TOLD, ["ab"]
        yield from drawn(seed, many)
        for clock in CLOCKS[:6]:
            yield clock, [clock.signals]

    def test_fates(self):
        seen = set()
        for device, family in self.fated(621, 100):
            told = []
            for one in range(device.states):
                for other in range(device.states):
                    fate = plain_fate(device, family, (one, other))
                    seen.add(fate)
                    self.assertEqual(pair_fate(device=device, family=tuple(family), one=one, other=other), fate)
                    if one < other:
                        told.append(((one, other), fate))
                        self.check_what_holds(device, family, (one, other), fate)
            self.assertTrue(same(fate_pairs(device=device, family=family), tuple(told)))
        self.assertEqual(seen, set(KINDS))

    def check_what_holds(self, device, family, pair, fate):
        for sign in device.signals:
            goal = pair_end(device, pair, sign)
            later = "one" if goal is None else plain_fate(device, family, goal)
            self.assertIn(later, {"never": ("never",), "sure": ("sure", "one"), "chance": ("one", "sure", "chance"),
                                  "open": KINDS}[fate])
        one, other = (hour_name(device, state) for state in pair)
        if one is not None and other is not None and one != other:
            self.assertEqual(fate, "never")

    def test_told_example(self):
        self.assertEqual([fate for pair, fate in fate_pairs(TOLD, ("ab",))][:4], ["never", "never", "never", "open"])
        self.assertEqual(fate_pairs(TOLD, ("ab",))[9], ((3, 4), "open"))

    def plain_closed(self, device, pair, value):
        if not isinstance(value, (list, tuple)) or not all(is_plain_pair(device, place) for place in value):
            return False
        places = [tuple(place) for place in value]
        if len(set(places)) != len(places) or pair not in places:
            return False
        return all(pair_end(device, place, sign) in places for place in places for sign in device.signals)

    def plain_ways(self, device, pair, value):
        if not isinstance(value, (list, tuple)):
            return False
        numbers = {}
        for entry in value:
            if not isinstance(entry, (list, tuple)) or len(entry) != 2 or not is_plain_pair(device, entry[0]):
                return False
            if type(entry[1]) is not int or entry[1] < 1 or tuple(entry[0]) in numbers:
                return False
            numbers[tuple(entry[0])] = entry[1]
        for place, number in numbers.items():
            goals = [pair_end(device, place, sign) for sign in device.signals]
            if any(goal is not None and goal not in numbers for goal in goals):
                return False
            if all((0 if goal is None else numbers[goal]) != number - 1 for goal in goals):
                return False
        return pair in numbers

    def plain_holds(self, device, family, one, other, value):
        if not isinstance(value, (list, tuple)) or len(value) == 0 or not isinstance(value[0], str):
            return False
        pair, kind = tuple(sorted((one, other))), (value[0], len(value))
        if one == other:
            return kind == ("one", 1)
        if kind == ("sure", 2):
            return sure_holds(device, family, value[1]) and pair in [tuple(place) for place, _ in value[1][1]]
        if kind == ("chance", 3):
            apart = apart_holds(device, family, value[1]) and tuple(value[1][1]) == pair
            return apart and self.plain_ways(device, pair, value[2])
        if kind == ("never", 2):
            return self.plain_closed(device, pair, value[1])
        if kind == ("open", 4) and is_plain_row(device, value[1]) and is_plain_row(device, value[2]):
            place = pair_end(device, pair, value[2])
            return pair_end(device, pair, value[1]) is None and place is not None and self.plain_closed(device, place, value[3])
        return False

    def test_papers(self):
        seen = set()
        for device, family in self.fated(622, 60):
            for one in range(device.states):
                for other in range(device.states):
                    paper = fate_paper(device=device, family=family, one=one, other=other)
                    seen.add(paper[0])
                    self.assertEqual(paper[0], plain_fate(device, family, (one, other)))
                    self.assertTrue(is_tupled(paper) and self.plain_holds(device, family, one, other, paper))
                    self.assertIs(fate_holds(device=device, family=family, one=one, other=other, value=paper), True)
                    self.assertIs(fate_holds(device, family, other, one, listed(paper)), True)
                    if paper[0] in ("chance", "never"):
                        self.assertEqual(list(paper[-1]), sorted(paper[-1]))
        self.assertEqual(seen, set(KINDS))

    def test_bent(self):
        draw = Draw(623)
        held = {kind: 0 for kind in KINDS}
        many = 0
        for device, family in self.fated(623, 25):
            for one, other in [(0, 0)] + pairs_of(device):
                for bent in bends(fate_paper(device, family, one, other), draw, any_values()):
                    holds = self.plain_holds(device, family, one, other, bent)
                    many += 1
                    self.assertIs(fate_holds(device, family, one, other, bent), holds)
                    if holds:
                        held[bent[0]] += 1
                        # what holds tells the fate
                        self.assertEqual(bent[0], plain_fate(device, family, (one, other)))
        self.assertTrue(all(kind_held > 5 for kind_held in held.values()), held)
        self.assertGreater(many - sum(held.values()), 3000)

    def test_turned(self):
        for one, other, fate in ((0, 3, "sure"), (0, 1, "chance"), (0, 5, "open"), (0, 4, "never")):
            paper = listed(fate_paper(MANY, ["ab"], one, other))
            self.assertEqual(paper[0], fate)
            paper[-1] = paper[-1][::-1] if fate != "sure" else [paper[1][0], paper[1][1][::-1], paper[1][2]]
            self.assertTrue(fate_holds(MANY, ["ab"], one, other, paper))
            self.assertTrue(fate_holds(MANY, ["ab"], other, one, paper))
            if fate != "sure":
                self.assertFalse(fate_holds(MANY, ["ab"], one, other, paper[:-1] + [paper[-1] + paper[-1][:1]]))
            for here in range(6):
                for there in range(6):
                    if plain_fate(MANY, ["ab"], (here, there)) != fate:
                        self.assertFalse(fate_holds(MANY, ["ab"], here, there, paper))
        # numbers need not be the least ones
        device = Device([(0, 0, 0, 0), (2, 3, 2, 3)])
        paper = fate_paper(device, ["b"], 0, 1)
        self.assertEqual((paper[0], paper[2]), ("chance", (((0, 1), 1), ((2, 3), 1))))
        for number, holds in ((0, False), (1, True), (2, True), (3, False)):
            self.assertIs(fate_holds(device, ["b"], 0, 1, ["chance", paper[1], [((2, 3), 1), ((0, 1), number)]]), holds)
        self.assertFalse(fate_holds(device, ["b"], 0, 1, ["chance", ("apart", (2, 3), "", "b"), paper[2]]))

    def test_any_value(self):
        for value in any_values():
            for one, other in ((0, 0), (0, 3), (0, 1), (0, 5), (0, 4)):
                paper = fate_paper(MANY, ["ab"], one, other)
                bents = [value, (value,), (value,) + paper[1:], paper + (value,)]
                bents += [paper[:at] + (value,) + paper[at + 1:] for at in range(len(paper))]
                if len(paper) > 2 or paper[0] == "never":
                    bents += [paper[:-1] + (paper[-1] + (value,),), paper[:-1] + ((value,) + paper[-1][1:],)]
                for bent in bents:
                    self.assertIs(fate_holds(MANY, ["ab"], one, other, bent), self.plain_holds(MANY, ["ab"], one, other, bent))

    def test_wrong_values(self):
        for value in any_values():
            if not isinstance(value, (list, tuple)) or len(value) == 0:
                for call in (pair_fate, fate_paper):
                    self.refuses(BadFamily, -1, call, TOLD, value, None, None)
                self.refuses(BadFamily, -1, fate_pairs, TOLD, value)
                self.refuses(BadFamily, -1, fate_holds, TOLD, value, None, None, None)
            if type(value) is not int or not 0 <= value < 5:
                for call in (pair_fate, fate_paper):
                    self.refuses(NoState, value, call, TOLD, ["ab"], value, None)
                    self.refuses(NoState, value, call, TOLD, ["ab"], 4, value)
                self.refuses(NoState, value, fate_holds, TOLD, ["ab"], value, None, None)
                self.refuses(NoState, value, fate_holds, TOLD, ["ab"], 4, value, None)
        self.refuses(BadFamily, 1, fate_holds, TOLD, ["b", "ba"], 9, 9, None)

    def test_one_state(self):
        one = Device([[0]])
        self.assertEqual((pair_fate(one, ["a"], 0, 0), fate_pairs(one, ["a"]), fate_paper(one, ["a"], 0, 0)), ("one", (), ("one",)))


if __name__ == "__main__":
    unittest.main()

"""Late-comers: points [65] to [67]."""

import unittest

from backinstep.classes import fewest_notes, sure_classes
from backinstep.devices import Device
from backinstep.errors import BadFamily, Refused
from backinstep.kept import tower_groupings
from backinstep.late import (
    behind_states, lasting_classes, lasting_holds, lasting_paper, lasting_states, notes_needed,
)
from tests.plain import Case, Draw, any_values, bends, cuts_of, end_of, is_tupled, listed, lots_of, places_after, plain_round, rows_to
from tests.test_classes import drawn, round_ends

LINE = Device([(0, 0, 1), (0, 1, 2)])
HUGE = 10 ** 18


def plain_behind(device, family, given):
    """The states taken behind at least so many rounds, by a search with the signals since the last cut."""
    queue = [(state, frozenset(), 0) for state in range(device.states)]
    seen = set(queue)
    for state, lot, cuts in queue:
        for sign in device.signals:
            more, count = lot | {sign}, cuts
            if plain_round(family, more):
                more, count = frozenset(), min(cuts + 1, given)
            node = (end_of(device, state, sign), more, count)
            if node not in seen:
                seen.add(node)
                queue.append(node)
    return tuple(sorted({state for state, _, cuts in queue if cuts >= given}))


class LateTest(Case):

    def test_told_example(self):
        self.assertEqual(lasting_states(LINE, ["ab"]), (0,))
        self.assertEqual([notes_needed(LINE, ["ab"], given, 1) for given in (0, 1, 2)], [2, 1, 1])

    def test_behind_states(self):
        for device, family in drawn(361, 100):
            plain = [plain_behind(device, family, given) for given in range(device.states + 2)]
            for given, states in enumerate(plain):
                self.assertEqual(behind_states(device=device, family=tuple(family), given=given), states)
            lasting = lasting_states(device=device, family=family)
            self.assertEqual(lasting, plain[-1])
            self.assertEqual(behind_states(device, family, HUGE), lasting)
            sizes = [len(states) for states in plain]
            settled = sizes.index(len(lasting))
            self.assertEqual(sizes[:settled + 1], sorted(set(sizes[:settled + 1]), reverse=True))
            self.assertLessEqual(settled, device.states - len(lasting))
            kept = [state for state in range(device.states) if state in round_ends(
                device, family, [state], lambda place, sign: end_of(device, place, sign))]
            for state in list(kept):
                for sign in device.signals:
                    goal = end_of(device, state, sign)
                    if goal not in kept:
                        kept.append(goal)
            queue = list(kept)
            for state in queue:
                queue += [end_of(device, state, sign) for sign in device.signals if end_of(device, state, sign) not in queue]
            self.assertEqual(lasting, tuple(sorted(set(queue))))

    def test_lasting_classes(self):
        for device, family in drawn(362, 80):
            lasting = lasting_states(device, family)
            told = tuple(group for group in sure_classes(device, family) if set(group) & set(lasting))
            self.assertEqual(lasting_classes(device=device, family=family), told)
            many = device.states - len(told)
            for row in rows_to(device.signals, 5 if len(device.signals) == 3 else 7):
                cuts = cuts_of(family, row)
                taken = len(places_after(device, range(device.states), row))
                self.assertLessEqual(taken, device.states - min(cuts, many))

    def test_notes_needed(self):
        for device, family in drawn(363, 80):
            tower = tower_groupings(device, family)
            lasting, classes = lasting_states(device, family), lasting_classes(device, family)
            before = None
            for given in (0, 1, 2, 3, HUGE):
                line = []
                for later in (0, 1, 2, 3, 4, HUGE):
                    places = behind_states(device, family, given)
                    groups = tower[min(later, len(tower) - 1)]
                    told = notes_needed(device=device, family=family, given=given, later=later)
                    self.assertEqual(told, sum(bool(set(group) & set(places)) for group in groups))
                    line.append(told)
                self.assertEqual(line, sorted(line, reverse=True))
                self.assertTrue(before is None or all(now <= then for now, then in zip(line, before)))
                before = line
            self.assertEqual(notes_needed(device, family, 0, 0), device.states)
            self.assertEqual(notes_needed(device, family, 0, HUGE), fewest_notes(device, family))
            self.assertEqual(notes_needed(device, family, HUGE, 0), len(lasting))
            self.assertEqual(notes_needed(device, family, HUGE, HUGE), len(classes))

    def test_fewest_notes_by_all_dealings(self):
        for device, family in drawn(364, 30, states=3, signals=2):
            rows = list(rows_to(device.signals, 7))
            for given, later in ((0, 0), (0, 1), (1, 0), (1, 1), (2, 1)):
                places = behind_states(device, family, given)
                apart = {(one, other) for one in places for other in places if one < other and any(
                    cuts_of(family, row) >= later and end_of(device, one, row) != end_of(device, other, row) for row in rows)}
                fewest = device.states
                for notes in self.dealings(len(places)):
                    told = dict(zip(places, notes))
                    if all(told[one] != told[other] for one, other in apart):
                        fewest = min(fewest, len(set(notes)))
                self.assertEqual(notes_needed(device, family, given, later), fewest)

    def dealings(self, many):
        if many == 0:
            return [()]
        return [notes + (note,) for notes in self.dealings(many - 1) for note in range(many)]

    def test_edges(self):
        one = Device([[0]])
        self.assertEqual((lasting_states(one, ["a"]), lasting_classes(one, ["a"]), behind_states(one, ["a"], 5)), ((0,), ((0,),), (0,)))
        self.assertEqual((notes_needed(one, ["a"], 0, 0), lasting_paper(one, ["a"])[0]), (1, "lasting"))
        self.assertEqual(behind_states(LINE, ["ab"], 0), (0, 1, 2))

    def test_wrong_values(self):
        for value in any_values():
            if not isinstance(value, (list, tuple)) or len(value) == 0:
                for call in (lasting_states, lasting_classes, lasting_paper):
                    self.refuses(BadFamily, -1, call, LINE, value)
                self.refuses(BadFamily, -1, behind_states, LINE, value, None)
                self.refuses(BadFamily, -1, lasting_holds, LINE, value, None)
                self.refuses(BadFamily, -1, notes_needed, LINE, value, None, None)
            if type(value) is not int or not 0 <= value <= HUGE:
                self.refuses(Refused, value, behind_states, LINE, ["ab"], value)
                self.refuses(Refused, value, notes_needed, LINE, ["ab"], value, None)
                self.refuses(Refused, value, notes_needed, LINE, ["ab"], HUGE, value)
        self.refuses(BadFamily, 1, notes_needed, LINE, ["a", "a"], -1, -1)


class PaperTest(Case):

    def plain_holds(self, device, family, value):
        seq = (list, tuple)
        if not isinstance(value, seq) or len(value) != 4 or not isinstance(value[0], str) or value[0] != "lasting":
            return False
        _, ways, heights, lacks = value
        if any(not isinstance(part, seq) for part in (ways, heights, lacks)):
            return False

        def is_state(state):
            return type(state) is int and 0 <= state < device.states

        def is_row(row):
            return isinstance(row, str) and set(row) <= set(device.signals) and len(row) <= 10000

        for lack in lacks:
            if not isinstance(lack, str) or lack not in lots_of(device.signals) or not all(set(lack) & set(lot) for lot in family):
                return False
        told = {}
        for way in ways:
            if not isinstance(way, seq) or len(way) != 4:
                return False
            state, start, again, row = way
            if not (is_state(state) and is_state(start) and is_row(again) and is_row(row)) or state in told:
                return False
            if not plain_round(family, again) or end_of(device, start, again) != start or end_of(device, start, row) != state:
                return False
            told[state] = -1
        for entry in heights:
            if not isinstance(entry, seq) or len(entry) != 2 or not is_state(entry[0]) or entry[0] in told:
                return False
            if type(entry[1]) is not int or not 0 <= entry[1] < len(lacks):
                return False
            told[entry[0]] = entry[1]
        if len(told) != device.states:
            return False
        for state, height in told.items():
            for sign in device.signals:
                goal = told[end_of(device, state, sign)]
                most = -1 if height < 0 else height - (sign in lacks[height])
                if goal > most:
                    return False
        return True

    def test_papers(self):
        for device, family in drawn(365, 100):
            paper = lasting_paper(device=device, family=family)
            self.assertTrue(is_tupled(paper) and self.plain_holds(device, family, paper))
            self.assertEqual(tuple(way[0] for way in paper[1]), lasting_states(device, family))
            self.assertEqual(list(paper[2]), sorted(paper[2]))
            self.assertIs(lasting_holds(device=device, family=family, value=paper), True)
            turned = listed(paper)
            self.assertIs(lasting_holds(device, family, [turned[0], turned[1][::-1], turned[2][::-1], turned[3]]), True)

    def test_bent(self):
        draw = Draw(366)
        many = held = 0
        for device, family in drawn(366, 50):
            for bent in bends(lasting_paper(device, family), draw, any_values()):
                holds = self.plain_holds(device, family, bent)
                many, held = many + 1, held + holds
                self.assertIs(lasting_holds(device, family, bent), holds)
                if holds:
                    self.assertEqual(tuple(sorted(way[0] for way in bent[1])), lasting_states(device, family))
        self.assertGreater(many - held, 1000)
        self.assertGreater(held, 200)

    def test_any_value(self):
        good = ["lasting", [[0, 0, "ab", ""]], [[1, 0], [2, 1]], ["a", "a"]]
        self.assertTrue(lasting_holds(LINE, ["ab"], good))
        self.assertFalse(lasting_holds(LINE, ["a", "b"], good))
        self.assertTrue(lasting_holds(LINE, ["ab"], good[:1] + [[[0, 0, "ab" * 5000, "a" * 10000]]] + good[2:]))
        self.assertFalse(lasting_holds(LINE, ["ab"], good[:1] + [[[0, 0, "ab" * 5000, "a" * 10001]]] + good[2:]))
        self.assertFalse(lasting_holds(LINE, ["ab"], good[:2] + [[[1, 0], [2, 0]], ["a"]]))
        self.assertFalse(lasting_holds(LINE, ["ab"], good[:2] + [[[1, 1], [2, 0]], ["a", "a"]]))
        self.assertFalse(lasting_holds(LINE, ["ab"], good[:2] + [[[1, 0]], ["a"]]))
        self.assertFalse(lasting_holds(LINE, ["ab"], good[:2] + [[[1, 0], [2, 1], [0, 0]], ["a", "a"]]))
        for value in any_values():
            bents = [value, ("lasting", value, good[2], good[3]), ("lasting", good[1], value, good[3]),
                     ("lasting", good[1], good[2], value), ("lasting", [value], good[2], good[3]),
                     ("lasting", good[1], [value, [2, 1]], good[3]), ("lasting", good[1], [[1, value], [2, 1]], good[3]),
                     ("lasting", good[1], [[value, 0], [2, 1]], good[3]), ("lasting", good[1], good[2], ["a", value]),
                     ("lasting", [[value, 0, "ab", ""]], good[2], good[3]), ("lasting", [[0, value, "ab", ""]], good[2], good[3]),
                     ("lasting", [[0, 0, value, ""]], good[2], good[3]), ("lasting", [[0, 0, "ab", value]], good[2], good[3])]
            for bent in bents:
                self.assertIs(lasting_holds(LINE, ["ab"], bent), self.plain_holds(LINE, ["ab"], bent))


if __name__ == "__main__":
    unittest.main()

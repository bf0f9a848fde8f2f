"""Mistakes: point [71]."""

import unittest

from backinstep.classes import enough_rounds, sure_classes
from backinstep.devices import Device
from backinstep.errors import BadFamily, BadRow, NoState, Refused, TooGreat
from backinstep.hours import Hours, device_hours
from backinstep.mistakes import (
    heals_exchanges, heals_mistake, kind_rows, lasting_exchange, mistaken_holds, mistaken_paper,
)
from backinstep.stairs import in_stair
from backinstep.sure import is_sure
from tests.plain import (
    CLOCKS, Case, Draw, any_values, bends, cuts_of, end_of, is_tupled, listed, rows_to,
)
from tests.test_classes import drawn
from tests.test_notes import plain_again

LINE = Device([(0, 0, 1, 3), (0, 1, 2, 3)])


def are_healed(device, family, one, other):
    return one == other or is_sure(device, family, (min(one, other), max(one, other)))


def plain_wrong(device, family, said, heard, states):
    return [state for state in states
            if not are_healed(device, family, end_of(device, state, said), end_of(device, state, heard))]


class MistakeTest(Case):

    def mistakes(self, seed, many):
        draw = Draw(seed)
        for device, family in drawn(seed, many):
            for _ in range(4):
                said = draw.row(device, draw.below(6))
                kind = draw.below(4)
                at = draw.below(len(said) + 1)
                heard = [said[:at] + said[at + 1:], said[:at] + said[at:at + 1] + said[at:], draw.row(device, draw.below(6)),
                         said[:at] + said[at:at + 2][::-1] + said[at + 2:]][kind]
                yield draw, device, family, said, heard

    def test_heals(self):
        seen = set()
        for draw, device, family, said, heard in self.mistakes(531, 70):
            everyone = range(device.states)
            wrong = plain_wrong(device, family, said, heard, everyone)
            seen.add(not wrong)
            self.assertIs(heals_mistake(device=device, family=tuple(family), said=said, heard=heard), not wrong)
            self.assertIs(heals_mistake(device, family, said, heard, states=None), not wrong)
            for _ in range(3):
                states = [draw.below(device.states) for _ in range(draw.below(4))]
                few = [state for state in states if state in wrong]
                self.assertIs(heals_mistake(device, family, said, heard, states=states), not few)
                paper = mistaken_paper(device, family, said, heard, states=tuple(states))
                self.assertEqual(paper if paper is None else paper[1], min(few) if few else None)
        self.assertEqual(seen, {True, False})

    def test_mistakes_that_heal(self):
        healed = 0
        for draw, device, family, said, heard in self.mistakes(532, 60):
            if not heals_mistake(device, family, said, heard):
                continue
            healed += 1
            for state in range(device.states):
                place = copy = state
                for _ in range(3):
                    both = draw.row(device, draw.below(4))
                    place, copy = end_of(device, place, both + said), end_of(device, copy, both + heard)
                row = ""
                while cuts_of(family, row) < enough_rounds(device, family):
                    row += draw.one_of(device.signals)
                self.assertEqual(end_of(device, place, row), end_of(device, copy, row))
        self.assertGreater(healed, 30)

    def test_edges(self):
        one = Device([[0]])
        self.assertTrue(heals_mistake(one, ["a"], "", "a" * 10000))
        self.assertIsNone(mistaken_paper(one, ["a"], "a", ""))
        self.assertTrue(heals_mistake(LINE, ["ab"], "a", "", states=[]))
        self.assertTrue(heals_mistake(Device([(1, 0), (0, 1)]), ["ab"], "a", "bba", states=(1, 0, 1)))
        self.assertIsNone(mistaken_paper(LINE, ["ab"], "a", "bb"))

    def plain_holds(self, device, family, said, heard, value):
        if not isinstance(value, (list, tuple)) or len(value) != 4 or not isinstance(value[0], str) or value[0] != "mistaken":
            return False
        _, state, row, again = value
        if type(state) is not int or not 0 <= state < device.states:
            return False
        pair = tuple(sorted((end_of(device, state, said), end_of(device, state, heard))))
        return pair[0] != pair[1] and plain_again(device, family, pair, row, again)

    def test_papers(self):
        many = 0
        for _, device, family, said, heard in self.mistakes(533, 90):
            wrong = plain_wrong(device, family, said, heard, range(device.states))
            paper = mistaken_paper(device=device, family=family, said=said, heard=heard)
            self.assertEqual(paper is None, not wrong)
            if paper is not None:
                many += 1
                self.assertTrue(is_tupled(paper) and self.plain_holds(device, family, said, heard, paper))
                self.assertEqual(paper[1], wrong[0])
                self.assertIs(mistaken_holds(device=device, family=family, said=said, heard=heard, value=paper), True)
                self.assertIs(mistaken_holds(device, family, said, heard, listed(paper)), True)
        self.assertGreater(many, 60)

    def test_bent(self):
        draw = Draw(534)
        many = held = 0
        for _, device, family, said, heard in self.mistakes(534, 25):
            paper = mistaken_paper(device, family, said, heard) or ("mistaken", 0, "", device.signals)
            for bent in bends(paper, draw, any_values()):
                holds = self.plain_holds(device, family, said, heard, bent)
                many, held = many + 1, held + holds
                self.assertIs(mistaken_holds(device, family, said, heard, bent), holds)
        self.assertGreater(held, 50)
        self.assertGreater(many - held, 500)
        device = Device([(1, 0), (0, 1)])
        for value in any_values():
            for bent in (value, ("mistaken", value, "", "ab"), ("mistaken", 1, value, "ab"), ("mistaken", 1, "", value)):
                self.assertIs(mistaken_holds(device, ["ab"], "a", "", bent), self.plain_holds(device, ["ab"], "a", "", bent))
        self.assertTrue(mistaken_holds(device, ["ab"], "a", "", ["mistaken", 1, "b" * 10000, "ab" * 5000]))
        self.assertFalse(mistaken_holds(device, ["ab"], "a", "", ["mistaken", 1, "b" * 10001, "ab"]))

    def test_exchanges(self):
        seen = set()
        for device, family in drawn(535, 80) + [(clock, [clock.signals]) for clock in CLOCKS]:
            for hours in device_hours(device):
                wrong = [(state, x, y) for state in hours.district for x in device.signals for y in device.signals
                         if x < y and plain_wrong(device, family, x + y, y + x, [state])]
                told = lasting_exchange(device=device, family=tuple(family), number=hours.number)
                self.assertEqual(told, wrong[0] if wrong else None)
                heals = heals_exchanges(device=device, family=family, number=hours.number)
                self.assertIs(heals, not wrong)
                seen.add(heals)
                like = all(are_healed(device, family, one, other) for one in hours.district for other in hours.district
                           if hours.hour_at(one) == hours.hour_at(other))
                self.assertEqual(heals, like)
                if heals:
                    self.check_counts_tell(device, family, hours)
        self.assertEqual(seen, {True, False})

    def check_counts_tell(self, device, family, hours):
        draw = Draw(device.states)
        for _ in range(6):
            said, heard = draw.row(device, draw.below(6)), draw.row(device, draw.below(6))
            moved = [said.count(sign) - heard.count(sign) for sign in device.signals]
            healed = heals_mistake(device, family, said, heard, states=hours.district)
            self.assertEqual(healed, in_stair(hours.stair, moved))

    def test_kinds(self):
        for device, family in drawn(536, 60, states=3):
            told = kind_rows(device=device, family=tuple(family), most=20000)
            kinds = {}
            for row in rows_to(device.signals, 4):
                kinds.setdefault(tuple(self.kind_of(device, family, row)), row)
            short = tuple(row for row in told if len(row) <= 4)
            self.assertEqual(short, tuple(kinds.values()))
            self.assertEqual(len({self.kind_of(device, family, row) for row in told}), len(told))
            # no further signal makes another kind, so these are all
            for row in told:
                for sign in device.signals:
                    self.assertIn(self.kind_of(device, family, row + sign), {self.kind_of(device, family, one) for one in told})
            self.assertEqual(kind_rows(device, family, most=len(told)), told)
            for most in range(1, len(told)):
                self.refuses(TooGreat, most, kind_rows, device, family, most=most)

    def kind_of(self, device, family, row):
        classes = sure_classes(device, family)
        names = {state: number for number, group in enumerate(classes) for state in group}
        return tuple(names[end_of(device, state, row)] for state in range(device.states))

    def test_kinds_heal(self):
        for device, family in drawn(537, 30):
            rows = kind_rows(device, family, most=20000)[:12]
            for one in rows:
                for other in rows:
                    self.assertEqual(heals_mistake(device, family, one, other), one == other)

    def test_very_many_kinds(self):
        device = Device([(1, 2, 3, 4, 5, 6, 7, 0), (1, 0, 2, 3, 4, 5, 6, 7), (0, 0, 2, 3, 4, 5, 6, 7)])
        self.refuses(TooGreat, 20000, kind_rows, device, ["abc"], most=20000)
        self.assertEqual(kind_rows(Device([[0] * 8]), ["a"], most=1), ("",))

    def test_wrong_values(self):
        for value in any_values():
            if not isinstance(value, (list, tuple)) or len(value) == 0:
                for call in (heals_mistake, mistaken_paper):
                    self.refuses(BadFamily, -1, call, LINE, value, None, None, states=value)
                self.refuses(BadFamily, -1, mistaken_holds, LINE, value, None, None, None)
                for call in (heals_exchanges, lasting_exchange):
                    self.refuses(BadFamily, -1, call, LINE, value, None)
                self.refuses(BadFamily, -1, kind_rows, LINE, value, most=5)
            if not isinstance(value, str):
                for call in (heals_mistake, mistaken_paper):
                    self.refuses(BadRow, -1, call, LINE, ["ab"], value, None, states=[value])
                    self.refuses(BadRow, -1, call, LINE, ["ab"], "", value, states=[value])
                self.refuses(BadRow, -1, mistaken_holds, LINE, ["ab"], value, None, None)
                self.refuses(BadRow, -1, mistaken_holds, LINE, ["ab"], "a", value, None)
            if type(value) is not int or not 0 <= value < 4:
                for call in (heals_mistake, mistaken_paper):
                    self.refuses(NoState, value, call, LINE, ["ab"], "", "", states=[0, value, -1])
            if type(value) is not int or not 0 <= value < 2:
                for call in (heals_exchanges, lasting_exchange):
                    self.refuses(Refused, value, call, LINE, ["ab"], value)
        self.refuses(BadRow, 2, heals_mistake, LINE, ["ab"], "abz", "z")
        self.refuses(BadRow, 0, heals_mistake, LINE, ["ab"], "ab", "z", states=[9])
        self.refuses(BadRow, 10000, mistaken_paper, LINE, ["ab"], "ab", "a" * 10001)
        self.refuses(BadRow, 1, mistaken_holds, LINE, ["ab"], "az", None, None)
        self.refuses(BadRow, 1, mistaken_holds, LINE, ["ab"], "a", "bz", None)
        self.refuses(BadRow, 10000, mistaken_holds, LINE, ["ab"], "a" * 10001, "b", None)
        self.refuses(BadFamily, 0, lasting_exchange, LINE, ["ac"], -1)


if __name__ == "__main__":
    unittest.main()

"""Notes and learners: points [68] and [69]."""

import unittest

from backinstep.classes import class_numbers, enough_rounds, sure_classes
from backinstep.devices import Device
from backinstep.errors import BadFamily, BadRow, Refused
from backinstep.notes import Learner, are_enough, fooled_holds, fooled_paper, notes_rounds
from backinstep.sure import is_sure
from tests.plain import (
    Case, Draw, any_values, bends, cuts_of, end_of, is_tupled, listed, pair_end, pairs_of, plain_round, plain_rounds,
    rows_to, same,
)
from tests.test_classes import drawn

LINE = Device([(0, 0, 1, 3), (0, 1, 2, 3)])
HUGE = 10 ** 18


def like_pairs(notes):
    return [(one, other) for other in range(len(notes)) for one in range(other) if notes[one] == notes[other]]


def is_plain_row(device, row):
    return isinstance(row, str) and set(row) <= set(device.signals) and len(row) <= 10000


def is_plain_pair(device, pair):
    if not isinstance(pair, (list, tuple)) or len(pair) != 2 or not all(type(state) is int for state in pair):
        return False
    return 0 <= pair[0] < pair[1] < device.states


def plain_again(device, family, pair, row, again):
    """Whether a row leads a pair to one that a round leads to itself, perhaps turned about."""
    if not is_plain_row(device, row) or not is_plain_row(device, again) or not plain_round(family, again):
        return False
    place = pair_end(device, pair, row)
    return place is not None and pair_end(device, place, again) == place


class NotesTest(Case):

    def noted(self, seed, many):
        draw = Draw(seed)
        for device, family in drawn(seed, many):
            kinds = 1 + draw.below(device.states)
            told = [[draw.below(kinds) for _ in range(device.states)], [7] * device.states,
                    [HUGE - state for state in range(device.states)], list(class_numbers(device, family))]
            for notes in told:
                yield device, family, notes

    def test_enough(self):
        seen = set()
        for device, family, notes in self.noted(501, 70):
            enough = all(is_sure(device, family, pair) for pair in like_pairs(notes))
            seen.add(enough)
            self.assertIs(are_enough(device=device, family=tuple(family), notes=tuple(notes)), enough)
            rounds = notes_rounds(device=device, family=family, notes=notes)
            self.assertEqual(rounds is not None, enough)
            self.assertEqual(fooled_paper(device=device, family=family, notes=notes) is None, enough)
        self.assertEqual(seen, {True, False})

    def test_rounds(self):
        greatest = 0
        for device, family, notes in self.noted(502, 60):
            plain = [plain_rounds(device, family, pair) for pair in like_pairs(notes)]
            told = None if None in plain else max([most + 1 for most in plain], default=0)
            self.assertEqual(notes_rounds(device, family, notes), told)
            greatest = max(greatest, told or 0)
        self.assertGreater(greatest, 1)
        self.assertEqual(notes_rounds(Device([(0, 0, 1, 2), (0, 1, 2, 3)]), ["ab"], [5, 5, 5, 5]), 3)

    def test_rounds_by_rows(self):
        for device, family, notes in self.noted(503, 25):
            told = notes_rounds(device, family, notes)
            worst = -1
            for row in rows_to(device.signals, 5):
                if any(pair_end(device, pair, row) is not None for pair in like_pairs(notes)):
                    worst = max(worst, cuts_of(family, row))
            if told is not None:
                self.assertLess(worst, told)

    def test_edges(self):
        one = Device([[0]])
        self.assertEqual((are_enough(one, ["a"], [HUGE]), notes_rounds(one, ["a"], [0]), fooled_paper(one, ["a"], (5,))), (True, 0, None))
        self.assertEqual(notes_rounds(LINE, ["ab"], [0, 1, 2, 3]), 0)
        self.assertEqual(notes_rounds(LINE, ["ab"], [4, 4, 4, 0]), 2)
        self.assertIsNone(notes_rounds(LINE, ["ab"], [4, 4, 4, 4]))
        self.assertEqual(fooled_paper(LINE, ["ab"], [4, 4, 4, 4])[:2], ("fooled", (0, 3)))
        self.assertEqual(fooled_paper(LINE, ["ab"], [0, 1, 2, 2])[:2], ("fooled", (2, 3)))

    def plain_holds(self, device, family, notes, value):
        if not isinstance(value, (list, tuple)) or len(value) != 4 or not isinstance(value[0], str) or value[0] != "fooled":
            return False
        _, pair, row, again = value
        if not is_plain_pair(device, pair) or notes[pair[0]] != notes[pair[1]]:
            return False
        return plain_again(device, family, tuple(pair), row, again)

    def test_papers(self):
        many = 0
        for device, family, notes in self.noted(504, 60):
            paper = fooled_paper(device, family, notes)
            if paper is not None:
                many += 1
                pairs = sorted(pair for pair in like_pairs(notes) if not is_sure(device, family, pair))
                self.assertTrue(is_tupled(paper) and self.plain_holds(device, family, notes, paper))
                self.assertEqual(paper[1], pairs[0])
                self.assertIs(fooled_holds(device=device, family=family, notes=tuple(notes), value=paper), True)
                self.assertIs(fooled_holds(device, family, notes, listed(paper)), True)
        self.assertGreater(many, 40)

    def test_bent(self):
        draw = Draw(505)
        many = held = 0
        for device, family, notes in self.noted(505, 40):
            paper = fooled_paper(device, family, notes) or ("fooled", (0, device.states - 1), "", device.signals)
            for bent in bends(paper, draw, any_values()):
                holds = self.plain_holds(device, family, notes, bent)
                many, held = many + 1, held + holds
                self.assertIs(fooled_holds(device, family, notes, bent), holds)
                self.assertFalse(holds and are_enough(device, family, notes))
        self.assertGreater(held, 100)
        self.assertGreater(many - held, 1000)

    def test_any_value(self):
        notes = [4, 4, 4, 4]
        self.assertTrue(fooled_holds(LINE, ["ab"], notes, ["fooled", [1, 3], "ab", "ab" * 5000]))
        self.assertFalse(fooled_holds(LINE, ["ab"], notes, ["fooled", [1, 3], "ab", "ab" * 5000 + "a"]))
        self.assertFalse(fooled_holds(LINE, ["ab"], [0, 1, 2, 3], ["fooled", [1, 3], "", "ab"]))
        self.assertFalse(fooled_holds(LINE, ["ab"], notes, ["fooled", [3, 1], "", "ab"]))
        self.assertFalse(fooled_holds(LINE, ["ab"], notes, ["fooled", [1, 3], "", "aa"]))
        for value in any_values():
            for bent in (value, ("fooled", value, "", "ab"), ("fooled", (0, 3), value, "ab"), ("fooled", (0, 3), "", value),
                         (value, (0, 3), "", "ab")):
                self.assertIs(fooled_holds(LINE, ["ab"], notes, bent), self.plain_holds(LINE, ["ab"], notes, bent))

    def test_wrong_values(self):
        for value in any_values():
            if not isinstance(value, (list, tuple)) or len(value) == 0:
                for call in (are_enough, notes_rounds, fooled_paper):
                    self.refuses(BadFamily, -1, call, LINE, value, None)
                self.refuses(BadFamily, -1, fooled_holds, LINE, value, None, None)
            for notes in (value, [value] * 4, (0, 0, 0, value), [0] * 3, [0] * 5):
                good = isinstance(notes, (list, tuple)) and len(notes) == 4
                if not good or not all(type(note) is int and 0 <= note <= HUGE for note in notes):
                    for call in (are_enough, notes_rounds, fooled_paper):
                        self.refuses(Refused, notes, call, LINE, ["ab"], notes)
                    self.refuses(Refused, notes, fooled_holds, LINE, ["ab"], notes, None)
        self.refuses(BadFamily, 1, are_enough, LINE, ["a", "z"], [0])


class LearnerTest(Case):

    def test_hears(self):
        draw = Draw(511)
        for device, family in drawn(511, 60):
            classes = sure_classes(device, family)
            numbers = class_numbers(device, family)
            for note, group in enumerate(classes):
                learner = Learner(device=device, family=family, note=note)
                self.assertEqual((learner.device, learner.family, learner.note), (device, tuple(family), note))
                heard = ""
                for _ in range(4):
                    ends = [end_of(device, state, heard) for state in group]
                    self.assertEqual(learner.place_told(), ends[0])
                    self.assertTrue(same(learner.places_open(), tuple(sorted(set(ends)))))
                    self.assertEqual({numbers[end] for end in ends}, {learner.note_now()})
                    self.assertEqual(learner.rounds_heard(), cuts_of(family, heard))
                    later = learner.next_learner()
                    self.assertIsNot(later, learner)
                    self.assertEqual((later.device, later.family, later.note), (device, tuple(family), learner.note_now()))
                    self.assertEqual((later.rounds_heard(), later.places_open()), (0, classes[later.note]))
                    row = draw.row(device, draw.below(5))
                    self.assertIsNone(learner.hear(row=row))
                    heard += row

    def test_chain_of_learners(self):
        draw = Draw(512)
        for device, family in drawn(512, 60):
            enough = enough_rounds(device, family)
            numbers = class_numbers(device, family)
            for state in range(device.states):
                place = state
                learner = Learner(device, family, numbers[state])
                for _ in range(3):
                    while learner.rounds_heard() < enough or draw.below(2):
                        row = draw.row(device, 1 + draw.below(3))
                        learner.hear(row)
                        place = end_of(device, place, row)
                        self.assertIn(place, learner.places_open())
                    self.assertEqual((learner.place_told(), learner.places_open()), (place, (place,)))
                    learner = learner.next_learner()

    def test_long_rows(self):
        learner = Learner(LINE, ["ab"], 0)
        for _ in range(3):
            learner.hear("ab" * 5000)
        self.assertEqual((learner.rounds_heard(), learner.place_told(), learner.places_open()), (15000, 0, (0,)))

    def test_a_refused_row_is_not_heard(self):
        learner = Learner(LINE, ["ab"], 0)
        learner.hear("a")
        before = (learner.place_told(), learner.places_open(), learner.rounds_heard())
        for value in any_values():
            if not isinstance(value, str):
                self.refuses(BadRow, -1, learner.hear, value)
        self.refuses(BadRow, 4, learner.hear, "ababz")
        self.refuses(BadRow, 10000, learner.hear, "ab" * 5001)
        self.assertEqual((learner.place_told(), learner.places_open(), learner.rounds_heard()), before)
        learner.hear("b")
        self.assertEqual(learner.rounds_heard(), 1)

    def test_lots_in_the_order_in_which_they_are_told(self):
        family = ["b", "ab"]
        learner = Learner(LINE, family, 0)
        family.append("a")
        self.assertEqual(learner.family, ("b", "ab"))

    def test_wrong_values(self):
        for value in any_values():
            if not isinstance(value, (list, tuple)) or len(value) == 0:
                self.refuses(BadFamily, -1, Learner, LINE, value, None)
            if type(value) is not int or not 0 <= value < 2:
                self.refuses(Refused, value, Learner, LINE, ["ab"], value)
        self.refuses(BadFamily, 0, Learner, LINE, ["ba"], -1)


if __name__ == "__main__":
    unittest.main()

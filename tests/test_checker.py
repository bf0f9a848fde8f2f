"""Told papers: point [87]."""

import importlib
import unittest

from backinstep.checker import check_paper, made_paper, paper_holds, paper_kinds, wrong_papers
from backinstep.devices import Device
from backinstep.errors import (
    BackError, BadFamily, BadRow, NoPair, NoState, NotYes, PaperFault, Refused, TooGreat,
)
from backinstep.sure import far_pairs
from tests.plain import CLOCKS, Case, Draw, any_values, bends, clock, listed, pairs_of, same
from tests.test_classes import drawn

PLACES = {
    "apart": "sure", "chain": "lots", "cure": "mends", "fate": "fates", "finest": "groupings", "fooled": "notes",
    "hours": "hours", "lasting": "late", "mend": "fleets", "mistaken": "mistakes", "most": "kept", "no": "verdicts",
    "out": "classes", "sure": "sure", "triangle": "lots", "unlike": "stories", "yes": "verdicts",
}
QUESTIONS = {
    "apart": "family pair", "chain": "", "cure": "", "fate": "family one other", "finest": "family",
    "fooled": "family notes", "hours": "", "lasting": "family", "mend": "family one other",
    "mistaken": "family said heard", "most": "family pair", "no": "family", "out": "family", "sure": "family",
    "triangle": "", "unlike": "", "yes": "family",
}
LINE = Device([(0, 0, 1, 3), (0, 1, 2, 3)])


def maker(kind):
    return getattr(importlib.import_module("backinstep." + PLACES[kind]), kind + "_paper")


def looker(kind):
    return getattr(importlib.import_module("backinstep." + PLACES[kind]), kind + "_holds")


def drawn_question(draw, device, family, kind):
    pairs = pairs_of(device)
    things = {
        "family": tuple(family) if draw.below(4) else list(family), "pair": draw.one_of(pairs) if pairs else (0, 1),
        "one": draw.below(device.states), "other": draw.below(device.states),
        "notes": tuple(draw.below(2) for _ in range(device.states)), "said": draw.row(device, draw.below(4)),
        "heard": draw.row(device, draw.below(4)),
    }
    if kind in ("finest", "no", "yes") and draw.below(3) == 0:
        things["family"] = None
    return tuple(things[word] for word in QUESTIONS[kind].split())


def all_made(seed, many, states=4):
    """Devices and told papers of all kinds."""
    draw = Draw(seed)
    for device, family in drawn(seed, many, states=states):
        for kind in PLACES:
            question = drawn_question(draw, device, family, kind)
            try:
                yield device, made_paper(device, kind, question)
            except (BackError, KeyError):
                pass


class CheckerTest(Case):

    def outcome_of(self, call, *things):
        try:
            return call(*things)
        except (BackError, NoPair, NoState) as error:
            return type(error), list(vars(error).values())

    def test_kinds(self):
        told = tuple((kind, len(words.split())) for kind, words in sorted(QUESTIONS.items()))
        self.assertTrue(same(paper_kinds(), told))
        self.assertEqual(len(told), 17)

    def test_made(self):
        draw = Draw(651)
        made = {}
        for device, family in drawn(651, 60) + [(told, [told.signals]) for told in CLOCKS[:5]]:
            for kind in PLACES:
                question = drawn_question(draw, device, family, kind)
                plain = self.outcome_of(maker(kind), device, *question)
                told = self.outcome_of(made_paper, device, kind, question)
                if plain is None:
                    self.assertEqual(told, (Refused, [question]))
                elif isinstance(plain[0], type):
                    self.assertTrue(told[0] is plain[0] and all(map(same, told[1], plain[1])))
                else:
                    self.assertEqual(told, (kind, question, plain))
                    self.assertIs(type(told), tuple)
                    self.assertEqual(listed(told[1]), listed(question))
                    self.assertTrue(paper_holds(device=device, value=told))
                    self.assertIsNone(check_paper(device=device, value=told))
                    made[kind] = made.get(kind, 0) + 1
        self.assertTrue(all(made.get(kind, 0) > 3 for kind in PLACES), made)

    def test_made_refused(self):
        for value in any_values():
            if not isinstance(value, str) or value not in PLACES:
                self.refuses(Refused, value, made_paper, LINE, value, value)
            for kind, words in QUESTIONS.items():
                if not isinstance(value, tuple) or len(value) != len(words.split()):
                    self.refuses(Refused, value, made_paper, LINE, kind, value)
        for kind, words in QUESTIONS.items():
            wrong = (["ab"],) * (len(words.split()) + 1)
            self.refuses(Refused, wrong, made_paper, LINE, kind, wrong)
            if words:
                self.refuses(BadFamily, -1, made_paper, LINE, kind, ("ab",) + (None,) * (len(words.split()) - 1))
        self.refuses(NoPair, [0, 1], made_paper, LINE, "apart", (["ab"], [0, 1]))
        self.refuses(BadRow, 0, made_paper, LINE, "mistaken", (["ab"], "a", "z"))
        self.refuses(NoState, 9, made_paper, LINE, "fate", (["ab"], 0, 9))
        self.refuses(Refused, (0, 1), made_paper, LINE, "fooled", (["ab"], (0, 1)))
        self.refuses(NotYes, "a", made_paper, clock(2, 1), "triangle", ())
        self.refuses(TooGreat, 8, made_paper, clock(9, 1), "cure", ())
        self.refuses(TooGreat, 8, made_paper, clock(9, 1), "unlike", ())
        question = (["ab"], (0, 1))
        self.refuses(Refused, question, made_paper, LINE, "apart", question)

    def plain_fault(self, device, value):
        if not isinstance(value, tuple) or len(value) != 3 or not isinstance(value[0], str) or value[0] not in PLACES:
            return 0
        kind, question, paper = value
        if not isinstance(question, tuple) or len(question) != len(QUESTIONS[kind].split()):
            return 0
        try:
            if kind == "apart":
                looker(kind)(device, question[0], None)
                if not any(same(question[1], pair) for pair in pairs_of(device)):
                    return 1
                holds = looker(kind)(device, question[0], paper) and tuple(paper[1]) == question[1]
            else:
                holds = looker(kind)(device, *question, paper)
        except (BackError, KeyError):
            return 1
        return None if holds else 2

    def test_check(self):
        draw = Draw(652)
        faults = {}
        papers = list(all_made(652, 14, states=3))
        for device, paper in papers:
            self.assertIsNone(check_paper(device, paper))
            self.assertIsNone(check_paper(device, paper[:2] + (listed(paper[2]),)))
            other, wrong = draw.one_of(papers)
            bents = list(bends(paper, draw, any_values()))
            bents = bents[:8] + draw.shuffled(bents)[:30] + [wrong, paper[:2] + wrong[2:], wrong[:1] + paper[1:], listed(paper)]
            for bent in bents:
                fault = self.plain_fault(device, bent)
                faults[fault] = faults.get(fault, 0) + 1
                self.assertIs(paper_holds(device, bent), fault is None)
                if fault is not None:
                    self.refuses(PaperFault, fault, check_paper, device, bent)
        self.assertTrue(all(faults[fault] > 50 for fault in (None, 0, 1, 2)), faults)

    def test_any_value(self):
        for value in any_values():
            self.refuses(PaperFault, 0, check_paper, LINE, value)
            self.assertIs(paper_holds(LINE, value), False)
            for kind, words in QUESTIONS.items():
                many = len(words.split())
                bents = [(kind, value, value), (value, (), value), (kind, (value,) * many, value), [kind, (value,) * many, None],
                         (kind, [value] * many, value), (kind, (value,) * (many + 1), value), (kind, (["ab"],) * many, value)]
                for bent in bents:
                    fault = self.plain_fault(LINE, bent)
                    self.assertIs(paper_holds(LINE, bent), fault is None)
                    if fault is not None:
                        self.refuses(PaperFault, fault, check_paper, LINE, bent)

    def test_apart_holds_for_its_own_pair_alone(self):
        for device, family in drawn(653, 40):
            for pair in far_pairs(device, family):
                _, question, paper = made_paper(device, "apart", (family, pair))
                for other in pairs_of(device):
                    self.assertIs(paper_holds(device, ("apart", (family, other), paper)), other == pair)
                self.refuses(PaperFault, 1, check_paper, device, ("apart", (family, list(pair)), paper))
                self.refuses(PaperFault, 1, check_paper, device, ("apart", (family, pair[::-1]), paper))
                self.assertTrue(paper_holds(device, ("apart", (family, pair), listed(paper))))

    def test_wrong_papers(self):
        draw = Draw(654)
        device = LINE
        good = [made_paper(device, kind, drawn_question(draw, device, ["ab"], kind)) for kind in
                ("chain", "cure", "fate", "hours", "lasting", "sure", "mend", "triangle", "yes")]
        for _ in range(20):
            values = [draw.one_of(good) if draw.below(2) else draw.one_of(any_values()) for _ in range(6)]
            told = tuple(at for at, value in enumerate(values) if value not in good)
            self.assertTrue(same(wrong_papers(device=device, values=values), told))
            self.assertTrue(same(wrong_papers(device, tuple(values)), told))
        self.assertEqual(wrong_papers(device, ()), ())
        for value in any_values():
            if not isinstance(value, (list, tuple)):
                self.refuses(Refused, value, wrong_papers, device, value)
            else:
                self.assertEqual(wrong_papers(device, value), tuple(range(len(value))))


if __name__ == "__main__":
    unittest.main()

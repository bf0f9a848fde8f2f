"""Desks: point [92]."""

import re
import unittest

from backinstep.desk import Desk
from backinstep.devices import Device
from backinstep.errors import BadDevice, BadFamily, BadRow, BadText, NoSignal, NoState, Refused
from backinstep.families import plain_family
from backinstep.live import Live
from tests.plain import Case, Draw, any_values, clock, same, small_devices
from tests.test_live import drawn_deed

NUMBER = "(0|[1-9][0-9]{0,5})"
WORD = "[^ \n]+"
FORMS = [
    f"device( {NUMBER}(,{NUMBER})*)+", f"family( {WORD})+", f"all {WORD}( {NUMBER})*", f"one {NUMBER} {WORD}",
    f"turn {NUMBER} {WORD} {NUMBER}", f"put {NUMBER}", "undo", "redo", "states", "taken", "together", "fleet", "most",
    f"fresh {NUMBER}", f"fate {NUMBER} {NUMBER}", f"offset {NUMBER} {NUMBER}", f"due {NUMBER} {NUMBER}",
    f"private {NUMBER} {NUMBER}",
]


def has_form(command):
    return isinstance(command, str) and any(re.fullmatch(form, command) for form in FORMS)


def device_words(device):
    return "device " + " ".join(",".join(map(str, table)) for table in device.tables)


def text_of(value, between=" "):
    if value is None or value == ():
        return "none"
    return between.join(map(str, value)) if isinstance(value, tuple) else str(value)


class DeskTest(Case):

    def answers(self, live, one, other):
        """What the commands that ask are to tell, by the house itself."""
        told = {"states": text_of(live.states), "taken": text_of(live.taken()), "most": str(live.most_taken()),
                "together": text_of(tuple(text_of(group, ",") for group in live.together()))}
        rows = live.private_rows() if live.states else None
        told["fleet"] = text_of(None if rows is None else tuple(row or "-" for row in rows))
        if live.states:
            told[f"fresh {one}"] = str(live.fresh_rounds(one))
            told[f"fate {one} {other}"] = live.fate(one, other)
            told[f"offset {one} {other}"] = text_of(live.offset(one, other), ",")
            told[f"due {one} {other}"] = text_of(live.due_rounds(one, other))
            told[f"private {one} {other}"] = text_of(live.private_number(one, other))
        return told

    def test_long_scripts(self):
        draw = Draw(691)
        heard = set()
        desk = Desk()
        for device in small_devices(691, 30) + [clock(6, 1, 2)]:
            self.assertEqual(desk.say(command=device_words(device)), "ok")
            live = Live(device, plain_family(device))
            for _ in range(40):
                kind = draw.below(6)
                if kind == 0:
                    self.assertEqual(desk.say("undo"), "ok" if live.undo_deed() else "nothing")
                elif kind == 1:
                    self.assertEqual(desk.say("redo"), "ok" if live.redo_deed() else "nothing")
                else:
                    name, things, missed = drawn_deed(draw, live.device, live.family, len(live.states))
                    if name in ("tell_all", "tell_one") and things[-1] == "":
                        continue
                    told = live.tell_all(*things, missed=missed) if missed else getattr(live, name)(*things)
                    words = list(map(str, things[0] if name == "take_family" else things)) + list(map(str, missed))
                    word = {"put_copy": "put", "tell_all": "all", "tell_one": "one", "turn_entry": "turn", "take_family": "family"}
                    self.assertEqual(desk.say(" ".join([word[name]] + words)), "ok" if told is None else str(told))
                self.assertEqual((desk.live.device, desk.live.family), (live.device, live.family))
                self.assertTrue(same((desk.live.states, desk.live.log, len(desk.live)), (live.states, live.log, len(live))))
                copies = max(len(live.states), 1)
                for command, text in self.answers(live, draw.below(copies), draw.below(copies)).items():
                    self.assertEqual(desk.say(command), text)
                    heard.add((command.split(" ")[0], text))
        for told in (("fleet", "none"), ("states", "none"), ("taken", "none"), ("together", "none"), ("most", "0"), ("due", "none"),
                     ("due", "-1"), ("offset", "none"), ("private", "none"), ("private", "0"), ("fate", "one"), ("fate", "never"),
                     ("fate", "sure"), ("fate", "open"), ("fleet", "-"), ("fresh", "2")):
            self.assertIn(told, heard)
        self.assertTrue(any(word == "fleet" and "- " in text for word, text in heard))
        self.assertTrue(any(word == "together" and "," in text and " " in text for word, text in heard))

    def test_told(self):
        desk = Desk()
        self.assertIsNone(desk.live)
        for command, text in (
                ("device 1,2,3,0,0 0,1,2,3,0", "ok"), ("put 0", "0"), ("put 3", "1"), ("put 3", "2"), ("states", "0 3 3"),
                ("taken", "0 3"), ("together", "0 1,2"), ("fleet", "- a a"), ("most", "3"), ("offset 0 1", "3,0"), ("fate 0 1", "never"),
                ("fate 1 2", "one"), ("due 0 1", "none"), ("due 1 2", "-1"), ("private 0 1", "1"), ("all ab 2", "ok"),
                ("states", "1 0 3"), ("fresh 0", "1"), ("fresh 2", "0"), ("one 2 aa", "ok"), ("turn 0 b 1", "ok"), ("fresh 0", "0"),
                ("family b a", "ok"), ("all ba", "ok"), ("fresh 1", "2"), ("undo", "ok"), ("undo", "ok"), ("redo", "ok"),
                ("redo", "ok"), ("redo", "nothing"), ("put 4", "3"), ("fleet", "none"), ("offset 3 0", "none"),
                ("device 0", "ok"), ("states", "none"), ("together", "none"), ("fleet", "none"), ("most", "0"), ("undo", "nothing"),
                ("put 0", "0"), ("fleet", "-")):
            self.assertEqual(desk.say(command), text, command)
        self.assertEqual((desk.live.device, desk.live.family), (Device([[0]]), ("a",)))

    def test_forms(self):
        draw = Draw(692)
        good = ["device 0,0 1,1", "family a b", "family ab", "all ab 0 1", "all b", "one 0 ab", "turn 0 a 1", "put 1", "undo", "redo",
                "states", "taken", "together", "fleet", "most", "fresh 0", "fate 0 1", "offset 0 1", "due 1 0", "private 1 1"]
        wrong = 0
        for command in good:
            bents = {command, "", " ", command + " ", " " + command, command + "\n", command + " 0", command + " x",
                     command.replace(" ", "  "), command.upper(), command[:-1], command.replace(" ", "\n"), command + " 0 0"}
            for _ in range(40):
                at = draw.below(len(command) + 1)
                sign = draw.one_of([" ", "\n", "0", "1", "9", ",", "a", "-", "x", "\t", "\u0661", "+", "000000"])
                bents |= {command[:at] + sign + command[at:], command[:at] + command[at + 1:], command[:at] + sign + command[at + 1:]}
            for bent in sorted(bents):
                desk = Desk()
                desk.say("device 0,1,1,0 1,2,3,0")
                desk.say("put 1")
                desk.say("put 2")
                told = self.outcome(desk.say, bent)
                if has_form(bent):
                    self.assertNotEqual(told, (BadText, [0]), bent)
                else:
                    wrong += 1
                    self.assertEqual(told, (BadText, [0]), bent)
                    self.assertEqual((desk.live.states, len(desk.live)), ((1, 2), 2))
        self.assertGreater(wrong, 500)

    def test_any_value(self):
        desk = Desk()
        for value in any_values() + ["states", "undo", "put 0", "fate 0 0", "all a", "family a", "turn 0 a 0", "fleet", "most"]:
            self.refuses(BadText, 0, desk.say, value)
            self.assertIsNone(desk.live)
        for command in ("device", "device ", "device a", "device 0,", "device ,0", "device 0,,0", "device 00", "device 0,01",
                        "device -1", "device 1000000", "device 0\n", "device 0,0  0,0", "device +0", "device 0 x"):
            self.refuses(BadText, 0, desk.say, command)
        self.refuses(BadDevice, 0, desk.say, "device 999999")
        self.refuses(BadDevice, 1, desk.say, "device 0,1 0,2")
        self.refuses(BadDevice, 1, desk.say, "device 0,1 0")
        self.refuses(BadDevice, -1, desk.say, "device 0 0 0 0 0 0")
        self.refuses(BadDevice, 0, desk.say, "device " + ",".join(["0"] * 61))
        self.assertIsNone(desk.live)

    def test_other_errors(self):
        desk = Desk()
        desk.say("device 0,0,1 0,1,2")
        desk.say("put 2")
        desk.say("put 1")
        live = desk.live
        for error, told, command in (
                (NoState, 3, "put 3"), (NoState, 999999, "put 999999"), (BadText, 0, "put 1000000"), (BadText, 0, "put 01"),
                (BadRow, 1, "all ac"), (BadRow, 0, "all - 9"), (Refused, (0, 2), "all a 0 2"), (Refused, (1, 1), "all a 1 1"),
                (Refused, 2, "one 2 z"), (BadRow, 0, "one 1 z"), (NoState, 3, "turn 3 z 9"), (NoSignal, "ab", "turn 0 ab 9"),
                (NoState, 9, "turn 0 b 9"), (BadFamily, 1, "family a a"), (BadFamily, 0, "family ba"), (BadFamily, 1, "family a 0"),
                (Refused, 5, "fresh 5"), (Refused, 2, "fate 2 9"), (Refused, 9, "fate 1 9"), (Refused, 2, "offset 2 0"),
                (Refused, 2, "due 0 2"), (Refused, 3, "private 3 0"), (BadFamily, 1, "family a a\tb"), (BadRow, 1, "all a\t"),
                (BadDevice, 0, "device 1"), (BadRow, 10000, "all " + "a" * 10001), (BadFamily, -1, "family" + " a" * 32)):
            self.refuses(error, told, desk.say, command)
            self.assertIs(desk.live, live)
            self.assertEqual((live.states, live.log, len(live), live.device), ((2, 1), "", 2, Device([(0, 0, 1), (0, 1, 2)])))
        self.assertEqual(desk.say("all " + "ab" * 5000), "ok")
        self.assertEqual(desk.say("states"), "0 0")

    def test_two_desks(self):
        one, other = Desk(), Desk()
        one.say("device 0")
        self.assertIsNone(other.live)
        self.refuses(BadText, 0, other.say, "states")


if __name__ == "__main__":
    unittest.main()

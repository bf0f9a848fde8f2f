"""Devices as texts: point [10]."""

import unittest

from backinstep.devices import Device
from backinstep.errors import BadText
from backinstep.texts import device_text, read_device
from tests.plain import Case, any_values, small_devices


def plain_line_is_right(line, at, states):
    """Whether a line, from 1 on, is one that the text of some device with so many states could have."""
    if at == 1:
        return line in ["states " + str(number) for number in range(1, 61)]
    words = line.split(" ")
    rights = [str(state) for state in range(states)]
    return at <= 6 and words[0] == " abcde"[at - 1] and len(words) == states + 1 and all(w in rights for w in words[1:])


def plain_wrong_line(text):
    lines = text.split("\n")
    states = 0
    for at, line in enumerate(lines, 1):
        if not plain_line_is_right(line, at, states):
            return at
        if at == 1:
            states = int(line.split(" ")[1])
    return 2 if len(lines) == 1 else None


class TextTest(Case):

    def test_text(self):
        self.assertEqual(device_text(Device([(1, 2, 0), (0, 1, 2)])), "states 3\na 1 2 0\nb 0 1 2")
        self.assertEqual(device_text(device=Device([[0]])), "states 1\na 0")
        self.assertEqual(read_device(text="states 1\na 0"), Device([[0]]))

    def test_there_and_back(self):
        devices = small_devices(21, 60, states=8, signals=5)
        devices.append(Device([[(state * 7 + sign) % 60 for state in range(60)] for sign in range(5)]))
        for device in devices:
            self.assertEqual(read_device(device_text(device)), device)

    def test_no_string(self):
        for value in any_values():
            if isinstance(value, str):
                self.refuses(BadText, 1, read_device, value)
            else:
                self.refuses(BadText, 0, read_device, value)

    def test_wrong_lines(self):
        wrong = {
            "": 1, "\n": 1, "states 0\n": 1, "states 61\na 0": 1, "states 01\na 0": 1, "states 1 \na 0": 1,
            "states  1\na 0": 1, "States 1\na 0": 1, "states -1\na 0": 1, "states +1\na 0": 1, "states": 1,
            "states 1": 2, "states 1\n": 2, "states 1\nb 0": 2, "states 1\na 1": 2, "states 1\na 0 0": 2,
            "states 1\na": 2, "states 1\na 00": 2, "states 1\na  0": 2, "states 1\na 0 ": 2, "states 1\n a 0": 2,
            "states 1\na 0\n": 3, "states 1\na 0\n\nb 0": 3, "states 1\na 0\na 0": 3, "states 1\na 0\nc 0": 3,
            "states 2\na 0 1\nb 0 2\nd 0 0": 3, "states 2\na 0 1\nb 0 1\nd 0 0": 4, "states 1\r\na 0": 1,
            "states 1\na 0\nb 0\nc 0\nd 0\ne 0\n": 7, "states 1\na 0\nb 0\nc 0\nd 0\ne 0\nf 0": 7,
            "states 1\na 0\nb 0\nc 0\nd 1\ne 0\nf 0": 5, "states 1\na " + "0" * 5000: 2, "states " + "1" * 5000: 1,
            "states 1\na 0\u0660": 2, "states \u0661\na 0": 1, "states 1\na \u00b2": 2, " states 1\na 0": 1,
            "states 2\na 0 10": 2, "states 1\ta 0": 1, "states 1_0\na 0": 1,
        }
        for text, at in wrong.items():
            self.refuses(BadText, at, read_device, text)

    def test_bent_texts(self):
        signs = "0 1\na2bs-"
        for device in small_devices(22, 12):
            text = device_text(device)
            for at in range(len(text) + 1):
                for sign in signs:
                    for bent in (text[:at] + text[at + 1:], text[:at] + sign + text[at:], text[:at] + sign + text[at + 1:]):
                        line = plain_wrong_line(bent)
                        if line is None:
                            self.assertEqual(device_text(read_device(bent)), bent)
                        else:
                            self.refuses(BadText, line, read_device, bent)


if __name__ == "__main__":
    unittest.main()

"""The examples of the document, as far as their modules are there, and those of README.md.

Chapter 3:

    >>> from backinstep.devices import Device
    >>> from backinstep.turns import Turn
    >>> from backinstep.webs import Web, web_districts
    >>> device = Device([(1, 2, 0, 0), (0, 1, 2, 1)])
    >>> web = Web(device, "pairs")
    >>> device.effect("ab"), device.left_alone("aaa"), web_districts(device), Turn(device, "a").tails
    ((1, 2, 0, 0), (0, 1, 2), ((0, 1, 2),), (0, 0, 0, 1))
    >>> web.knots, web.held, web.great_lots((0, 3))
    ((((0, 1), (0, 2), (1, 2)), ((0, 3),), ((1, 3),), ((2, 3),)), ('ab', '', '', ''), ('ab',))

Chapter 4:

    >>> from backinstep.hours import device_hours
    >>> from backinstep.strides import enough_number, few_walk
    >>> from backinstep.dealings import all_dealings, all_dials
    >>> device = Device([(1, 2, 3, 0), (1, 0, 1, 0)])
    >>> hours = device_hours(device)[0]
    >>> hours.stair, hours.hour_at(3), hours.is_kept((3, 5)), few_walk(hours, 0, 2, (2, 2))
    (((1, 1), (0, 2)), (0, 1), True, 'abba')
    >>> [dealing.groups for dealing in all_dealings(hours)], all_dials(hours, 2), enough_number(hours)
    ([((0, 1, 2, 3),), ((0, 2), (1, 3))], ((0, 0), (1, 1)), 22)

Chapter 5, without what the module of classes tells:

    >>> from backinstep.sure import needed_lots, sure_pairs
    >>> line = Device([(0, 0, 1, 3), (0, 1, 2, 3)])
    >>> sure_pairs(line, ["ab"]), sure_pairs(line, ["a", "b"]), needed_lots(line, (0, 2)), needed_lots(line, (0, 3))
    (((0, 1), (0, 2), (1, 2)), (), ('a',), ())
"""

import doctest
import pathlib
import sys
import unittest


class ExampleTest(unittest.TestCase):

    def test_document(self):
        result = doctest.testmod(sys.modules[__name__])
        self.assertEqual((result.failed, result.attempted > 15), (0, True))

    def test_readme(self):
        readme = pathlib.Path(__file__).resolve().parent.parent / "README.md"
        result = doctest.testfile(str(readme), module_relative=False, encoding="utf-8")
        self.assertEqual((result.failed, result.attempted > 10), (0, True))


if __name__ == "__main__":
    unittest.main()

"""The examples of the document, and those of README.md.

Chapter 3:

    >>> from backinstep.devices import Device
    >>> from backinstep.turns import Turn
    >>> from backinstep.webs import Web, web_districts
    >>> device = Device([(1, 2, 0, 0), (0, 1, 2, 1)])
    >>> web = Web(device, "pairs")
    >>> device.effect("ab"), device.left_alone("aaa"), web_districts(device), Turn(device, "a").tails
    ((1, 2, 0, 0), (0, 1, 2), ((0, 1, 2),), (0, 0, 0, 1))
    >>> web.knots, web.held, web.great_lots((0, 3))
    ((((0, 1), (0, 2), (1, 2)), ((0, 3),), ((1, 3),), ((2, 3),)), ('ab', '', '', ''), ('ab',))

Chapter 4:

    >>> from backinstep.hours import device_hours
    >>> from backinstep.strides import enough_number, few_walk
    >>> from backinstep.dealings import all_dealings, all_dials
    >>> device = Device([(1, 2, 3, 0), (1, 0, 1, 0)])
    >>> hours = device_hours(device)[0]
    >>> hours.stair, hours.hour_at(3), hours.is_kept((3, 5)), few_walk(hours, 0, 2, (2, 2))
    (((1, 1), (0, 2)), (0, 1), True, 'abba')
    >>> [dealing.groups for dealing in all_dealings(hours)], all_dials(hours, 2), enough_number(hours)
    ([((0, 1, 2, 3),), ((0, 2), (1, 3))], ((0, 0), (1, 1)), 22)

Chapter 1:

    >>> from backinstep.verdicts import is_yes
    >>> line = Device([(0, 0, 1), (0, 1, 2)])
    >>> twist = Device([(0, 1, 0, 1), (2, 3, 3, 2)])
    >>> is_yes(line), is_yes(twist), twist.left_alone("abab"), twist.left_alone("aabb")
    (True, False, (2, 3), ())

Chapter 5:

    >>> from backinstep.classes import class_stairs, places_bound
    >>> from backinstep.sure import needed_lots, sure_pairs
    >>> line = Device([(0, 0, 1, 3), (0, 1, 2, 3)])
    >>> sure_pairs(line, ["ab"]), sure_pairs(line, ["a", "b"]), needed_lots(line, (0, 2)), needed_lots(line, (0, 3))
    (((0, 1), (0, 2), (1, 2)), (), ('a',), ())
    >>> class_stairs(line, ["ab"]), places_bound(line, ["ab"], 1)
    ((((0, 1, 2), (3,)), ((0, 1), (2,), (3,)), ((0,), (1,), (2,), (3,))), 3)

Chapter 6:

    >>> from backinstep.kept import Keeper, apart_row, kept_numbers, most_rounds, tower_groupings
    >>> line = Device([(0, 0, 1, 2), (0, 1, 2, 3)])
    >>> tower_groupings(line, ["ab"])
    (((0,), (1,), (2,), (3,)), ((0, 1), (2,), (3,)), ((0, 1, 2), (3,)), ((0, 1, 2, 3),))
    >>> most_rounds(line, ["ab"], (1, 3)), apart_row(line, ["ab"], (0, 3), 2), kept_numbers(line, ["ab"], (0, 2), 2)
    (2, 'abab', (1, 2))
    >>> keeper = Keeper(line, ["ab"], (0, 3))
    >>> keeper.hear("aa")
    >>> keeper.standing(), keeper.more_rounds(), keeper.next_row()
    (((0, 1), 'a', 0), 1, 'b')
    >>> from backinstep.paced import least_pace, longest_apart
    >>> longest_apart(line, ["ab"], (0, 3), 3), least_pace(line, ["ab"], (0, 3)), least_pace(line, ["a", "b"], (0, 3))
    (8, None, 1)

Chapter 7:

    >>> from backinstep.entries import effects_total, three_things
    >>> from backinstep.stories import first_exchange, told_numbers
    >>> twist = Device([(0, 1, 0, 1), (2, 3, 3, 2)])
    >>> first_exchange(twist), told_numbers(twist, (2, 2))
    (('ab', 'a', 'b'), ((0, 4), (2, 2)))
    >>> late = Device([(1, 0, 0), (0, 1, 0)])
    >>> three_things(late, "ab"), effects_total(late)
    ((((0, (1, 0)),), (0, 1), (1, 0)), 4)

Chapter 8:

    >>> from backinstep.clocks import Clocks
    >>> from backinstep.counted import first_leaving, nth_round, rounds_by_hour, settled_length, total_left
    >>> device = Device([(1, 0, 3, 4, 2, 0), (0, 1, 3, 4, 2, 2)])
    >>> clocks = Clocks(device)
    >>> clocks.districts, clocks.joint_rows, clocks.alone_numbers(), clocks.beats()
    (((0, 1), (2, 3, 4)), ('', 'a', 'b', 'aa', 'ab', 'aaa'), ((0, 2), (2, 2), (3, 1), (5, 1)), 3)
    >>> clocks.left_by_counts((3, 3)), clocks.left_places("ababab"), clocks.joint_of((10 ** 18, 1))
    (3, (2, 3, 4), 3)
    >>> rounds_by_hour(clocks, 3), total_left(device, 3), settled_length(clocks)
    ((3, 0, 0, 0, 0, 3), 24, 3)
    >>> first_leaving(clocks, 2), nth_round(clocks, 4, 2, 3)
    ('aabb', 'baab')

Chapter 9:

    >>> from backinstep.lots import chain_paper, lot_levels, lot_table
    >>> from backinstep.roots import weight_roots
    >>> fall = Device([(0, 0, 1), (0, 1, 1)])
    >>> lot_table(fall)
    (('', True, 3, 3), ('a', True, 1, 1), ('b', True, 2, 2), ('ab', True, 1, 1))
    >>> lot_levels(fall), weight_roots(fall, (5, -2))
    ((('', 1), ('b', 1), ('ab', 1)), (-2, 0, 3))
    >>> chain_paper(Device([(1, 0, 2), (0, 2, 1)]))
    ('exchange', 'ab', 'a', 'b')

Chapter 10:

    >>> from backinstep.late import lasting_states, notes_needed
    >>> from backinstep.listeners import least_listener, listener_rounds
    >>> line = Device([(0, 0, 1), (0, 1, 2)])
    >>> lasting_states(line, ["ab"]), [notes_needed(line, ["ab"], given, 1) for given in (0, 1, 2)]
    ((0,), [2, 1, 1])
    >>> least_listener(line, ["ab"]).starts, listener_rounds(line, ["ab"], least_listener(line, ["ab"]))
    ((0, 0, 0), 2)
    >>> from backinstep.twain import meeting_counts
    >>> stairs = [((2, 0), (0, 1)), ((1, 0), (0, 2)), ((1, 1), (0, 2))]
    >>> meeting_counts(stairs[:2], [(1, 0), (0, 0)]), meeting_counts(stairs, [(1, 0), (0, 0), (0, 0)])
    ((1, 0), None)

Chapter 11:

    >>> from backinstep.groupings import finest_yes
    >>> from backinstep.mends import cure_row, fewest_ties, fewest_turns
    >>> device = Device([(2, 1, 2, 3), (1, 2, 0, 2)])
    >>> finest_yes(device), cure_row(device), fewest_ties(device)
    ((0, 0, 0, 1), 'aba', ('ab',))
    >>> fewest_turns(device, "yes", most=1000), fewest_turns(device, "together", most=1000)
    (((0, 'a', 0),), ((0, 'b', 0),))

Chapter 12:

    >>> from backinstep.fates import fate_pairs
    >>> from backinstep.fleets import fleet_rows, mend_number, state_offset
    >>> device = Device([(1, 2, 3, 0, 0), (0, 1, 2, 3, 0)])
    >>> state_offset(device, 0, 3), fleet_rows(device, (0, 1, 3, 3)), mend_number(device, ("ab",), 0, 2)
    ((3, 0), ('', 'aaa', 'a', 'a'), 2)
    >>> [fate for pair, fate in fate_pairs(device, ("ab",))][:4], fate_pairs(device, ("ab",))[9]
    (['never', 'never', 'never', 'open'], ((3, 4), 'open'))
"""

import doctest
import pathlib
import sys
import unittest


class ExampleTest(unittest.TestCase):

    def test_document(self):
        result = doctest.testmod(sys.modules[__name__])
        self.assertEqual((result.failed, result.attempted > 50), (0, True))

    def test_readme(self):
        readme = pathlib.Path(__file__).resolve().parent.parent / "README.md"
        result = doctest.testfile(str(readme), module_relative=False, encoding="utf-8")
        self.assertEqual((result.failed, result.attempted > 10), (0, True))


if __name__ == "__main__":
    unittest.main()

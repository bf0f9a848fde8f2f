"""Devices side by side, rows taken as signals, devices that fall into coarser ones, and the part told yes."""

from backinstep.basics import ALL_SIGNALS, all_lots, check_row, is_sequence
from backinstep.devices import MOST_STATES, Device, cut_device, row_effect
from backinstep.errors import Refused, TooGreat
from backinstep.families import fills, least_of
from backinstep.groupings import check_grouping, first_numbers, grouped_device, pair_groupings, single_grouping
from backinstep.twain import check_twain
from backinstep.verdicts import is_yes, told_family
from backinstep.webs import Web

MOST_ROWS = 5
MOST_SPLIT = 8


def union_device(one, other):
    """The device with the states of two, those of the second numbered on."""
    check_twain(one, other)
    if one.states + other.states > MOST_STATES:
        raise TooGreat(MOST_STATES)
    tables = []
    for table, more in zip(one.tables, other.tables):
        tables.append(list(table) + [state + one.states for state in more])
    return Device(tables)


def check_rows(device, rows):
    """Raise Refused for any value that is no sequence of 1 to 5 items, then BadRow for the first that is no row."""
    if not is_sequence(rows) or not 1 <= len(rows) <= MOST_ROWS:
        raise Refused(rows)
    for row in rows:
        check_row(device, row)


def row_device(device, rows):
    """The device whose k-th signal does what the k-th of some rows does."""
    check_rows(device, rows)
    return Device([row_effect(device, row) for row in rows])


def row_family(device, rows, family=None):
    """The least lots of its signals whose rows together have all signals of some lot of a family."""
    check_rows(device, rows)
    told = told_family(device, family)
    signs = dict(zip(ALL_SIGNALS, rows))
    lots = all_lots(ALL_SIGNALS[:len(rows)])
    return least_of([lot for lot in lots if fills(told, "".join([signs[sign] for sign in lot]))])


def are_split(one, other):
    """Whether no two states are joined by both groupings, by the tuples of both."""
    return len(set(list(zip(one, other)))) == len(one)


def is_split(device, one, other):
    """Whether no pair is joined by both groupings."""
    mine = check_grouping(device, one)
    return are_split(mine, check_grouping(device, other))


def first_split(device):
    """The first two groupings, each made by joining a pair, that join no pair both; None if there are none."""
    simple = pair_groupings(device)
    for at, one in enumerate(simple):
        for other in simple[at + 1:]:
            if are_split(one, other):
                return one, other
    return None


def split_pieces(device):
    """Groupings that join no pair all together, each with a device that falls into no coarser ones."""
    if device.states > MOST_SPLIT:
        raise TooGreat(MOST_SPLIT)
    pieces = []
    queue = [single_grouping(device)]
    at = 0
    while at < len(queue):
        grouping = queue[at]
        split = first_split(grouped_device(device, grouping))
        if split is None:
            pieces.append(grouping)
        else:
            finer = [first_numbers([coarser[group] for group in grouping]) for coarser in split]
            queue += [more for more in finer if more not in queue]
        at += 1
    return tuple(sorted(pieces))


def yes_part(device, family=None):
    """The states from which a device told yes is come to, ascending."""
    told = told_family(device, family)
    web = Web(device, "states")
    return tuple([state for state in web.nodes if is_yes(cut_device(device, web.reached(state)), told)])

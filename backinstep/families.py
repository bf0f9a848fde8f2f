"""Families of lots, and the rounds that they make of rows."""

from backinstep.basics import all_lots, check_row, do_meet, in_lot_order, is_lot, is_sequence, lies_in
from backinstep.errors import BadFamily, Refused

MOST_LOTS = 31


def check_family(device, family):
    """The tuple of any value that is a family of the device's lots, or BadFamily."""
    if not is_sequence(family) or not 1 <= len(family) <= MOST_LOTS:
        raise BadFamily(-1)
    seen = {}
    for at, lot in enumerate(family):
        if not is_lot(device, lot) or lot == "" or lot in seen:
            raise BadFamily(at)
        seen[lot] = True
    return tuple(family)


def plain_family(device):
    """The family with the lot of all signals alone."""
    return (device.signals,)


def least_of(lots):
    """Of some lots those that have all signals of no other one, in their order."""
    unlike = sorted(set(lots))
    return in_lot_order([lot for lot in unlike if not any([less != lot and lies_in(less, lot) for less in unlike])])


def least_lots(device, family):
    """The least lots of a family."""
    return least_of(check_family(device, family))


def fills(family, lot):
    """Whether some signals are all those of a lot of the family, and perhaps more."""
    return any([lies_in(told, lot) for told in family])


def is_full(device, family, lot):
    """Whether a lot has all signals of one of the family."""
    told = check_family(device, family)
    if not is_lot(device, lot):
        raise Refused(lot)
    return fills(told, lot)


def is_round(device, family, row):
    """Whether a row is a round of a family."""
    told = check_family(device, family)
    check_row(device, row)
    return fills(told, row)


def cut_places(device, family, row):
    """The places at which a row is cut, from the left, as soon as a round is there."""
    told = check_family(device, family)
    check_row(device, row)
    cuts = []
    signs = ""
    for at, sign in enumerate(row):
        if sign not in signs:
            signs = signs + sign
            if fills(told, signs):
                cuts.append(at + 1)
                signs = ""
    return tuple(cuts)


def round_count(device, family, row):
    """How many rounds a row has."""
    return len(cut_places(device, family, row))


def is_stricter(device, one, other):
    """Whether each round of one family is a round of the other one."""
    mine = check_family(device, one)
    theirs = check_family(device, other)
    return all([fills(theirs, lot) for lot in mine])


def either_family(device, one, other):
    """The family whose rounds are those of one or the other."""
    mine = check_family(device, one)
    return least_of(mine + check_family(device, other))


def both_family(device, one, other):
    """The family whose rounds are those of both."""
    mine = check_family(device, one)
    theirs = check_family(device, other)
    return least_of(["".join(sorted(set(lot + more))) for lot in mine for more in theirs])


def meets_all(lot, family):
    """Whether a lot has a signal in common with each lot of a family."""
    return all([do_meet(lot, told) for told in family])


def meeting_lots(device, family):
    """The least lots that have a signal in common with each lot of a family."""
    told = check_family(device, family)
    return least_of([lot for lot in all_lots(device.signals) if meets_all(lot, told)])


def lot_steps(device, family):
    """By (lot since the last cut, signal) the lot behind the signal, "" if there is a cut; for a checked family."""
    steps = {}
    for lot in ("",) + all_lots(device.signals):
        for sign in device.signals:
            more = "".join(sorted(set(lot + sign)))
            steps[(lot, sign)] = "" if fills(family, more) else more
    return steps


def led_from(moves_of, places):
    """The places to which rows lead some places, these too, in the order in which they are found."""
    queue = list(places)
    seen = {place: True for place in queue}
    at = 0
    while at < len(queue):
        place = queue[at]
        for _, goal in moves_of(place):
            if goal not in seen:
                seen[goal] = True
                queue.append(goal)
        at += 1
    return queue


def behind_round(moves_of, steps, places):
    """The places to which rounds, perhaps with more signals, lead some places."""

    def moves_on(node):
        place, lot = node
        ahead = []
        for sign, goal in moves_of(place):
            # None stands for the lot once a round is over
            more = None if lot is None or steps[(lot, sign)] == "" else steps[(lot, sign)]
            ahead.append((sign, (goal, more)))
        return ahead

    nodes = led_from(moves_on, [(place, "") for place in places])
    return [goal for goal, more in nodes if more is None]

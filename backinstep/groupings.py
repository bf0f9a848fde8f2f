"""Groupings of states that all signals keep, and the finest ones with a wish."""

from backinstep.basics import all_lots, are_integers, check_pair, is_row, is_sequence, is_sequence_of, is_state
from backinstep.classes import full_lots
from backinstep.devices import Device, few_signals, joined_effects, row_effect, row_end
from backinstep.errors import NoPair, PaperFault, Refused, TooGreat
from backinstep.families import fills
from backinstep.hours import like_pairs
from backinstep.turns import effect_square
from backinstep.verdicts import no_paper, told_family, yes_holds, yes_paper
from backinstep.webs import Web, joined_pair, outsiders


def first_numbers(names):
    """By name a number, in the order in which unlike names come first."""
    numbers = {}
    for name in names:
        if name not in numbers:
            numbers[name] = len(numbers)
    return tuple([numbers[name] for name in names])


def group_tables(tables, grouping):
    """The tables of the device of the groups of a grouping, if signals keep them; else None."""
    few = []
    for table in tables:
        goals = {}
        for state, group in enumerate(grouping):
            goal = grouping[table[state]]
            if goals.setdefault(group, goal) != goal:
                return None
        few.append([goals[group] for group in range(len(goals))])
    return few


def is_grouping(device, value):
    """Whether any value is a grouping of the device."""
    if not are_integers(value, device.states) or first_numbers(value) != tuple(value):
        return False
    return group_tables(device.tables, value) is not None


def check_grouping(device, grouping):
    """The tuple of any value that is a grouping of the device, or Refused."""
    if not is_grouping(device, grouping):
        raise Refused(grouping)
    return tuple(grouping)


def single_grouping(device):
    """The grouping in which each state is a group."""
    return tuple(range(device.states))


def joined_grouping(device, pairs):
    """The finest grouping that joins each of some pairs."""
    if not is_sequence(pairs):
        raise NoPair(pairs)
    for pair in pairs:
        check_pair(device, pair)
    return grown_grouping(device, pairs)


def grown_grouping(device, pairs):
    """The finest grouping that joins each two of some states, perhaps one and the same."""
    # by state the least one of its group
    leasts = list(range(device.states))
    queue = list(pairs)
    at = 0
    while at < len(queue):
        one, other = queue[at]
        low, high = sorted([leasts[one], leasts[other]])
        if low != high:
            leasts = [low if least == high else least for least in leasts]
            for table in device.tables:
                queue.append((table[low], table[high]))
        at += 1
    return first_numbers(leasts)


def least_states(grouping):
    """By group its least state."""
    return [grouping.index(group) for group in range(max(grouping) + 1)]


def group_links(grouping):
    """By state it and the least one of its group."""
    leasts = least_states(grouping)
    return [(leasts[group], state) for state, group in enumerate(grouping)]


def lies_within(one, other):
    """Whether one grouping joins all that another one joins, by the tuples of both."""
    return len(set(list(zip(one, other)))) == max(one) + 1


def is_within(device, one, other):
    """Whether the other grouping joins all that the first one joins."""
    mine = check_grouping(device, one)
    return lies_within(mine, check_grouping(device, other))


def met_grouping(device, one, other):
    """The grouping that joins the pairs that both join."""
    mine = check_grouping(device, one)
    theirs = check_grouping(device, other)
    return first_numbers(list(zip(mine, theirs)))


def spanned_grouping(device, one, other):
    """The finest grouping that joins all pairs that either joins."""
    mine = check_grouping(device, one)
    return spanned_numbers(mine, check_grouping(device, other))


def spanned_numbers(one, other):
    """The finest grouping that joins all pairs that either joins, by the tuples of both."""
    names = list(one)
    for least, state in group_links(other):
        low, high = names[least], names[state]
        if low != high:
            names = [low if name == high else name for name in names]
    return first_numbers(names)


def pair_groupings(device):
    """The unlike groupings that joining one pair makes, ascending."""
    states = range(device.states)
    pairs = [(one, other) for one in states for other in states if one < other]
    return sorted(set([grown_grouping(device, [pair]) for pair in pairs]))


def all_groupings(device, *, most):
    """All groupings, ascending."""
    simple = pair_groupings(device)
    queue = [single_grouping(device)]
    seen = {queue[0]: True}
    at = 0
    # each grouping is spanned by those of its pairs
    while at < len(queue):
        for grouping in simple:
            more = spanned_numbers(queue[at], grouping)
            if more not in seen:
                if len(queue) >= most:
                    raise TooGreat(most)
                seen[more] = True
                queue.append(more)
        at += 1
    return tuple(sorted(queue))


def grouped_device(device, grouping):
    """The device whose states are the groups."""
    return Device(group_tables(device.tables, check_grouping(device, grouping)))


def finest_yes(device, family=None):
    """The finest grouping whose device is told yes."""
    return finest_joins(device, told_family(device, family))[0]


def finest_joins(device, family):
    """The finest grouping whose device is told yes for a checked family, and the joins that make it."""
    grouping = single_grouping(device)
    joins = []
    few = device
    paper = no_paper(few, family)
    while paper is not None:
        joins.append(needed_join(few, least_states(grouping), paper))
        grouping = grown_grouping(device, group_links(grouping) + [joined_by(few, grouping, family, joins[-1])])
        few = grouped_device(device, grouping)
        paper = no_paper(few, family)
    return grouping, tuple(joins)


def needed_join(few, leasts, paper):
    """The join that a paper of no of the device of some groups asks for."""
    _, node, again = paper
    if isinstance(node, tuple):
        return "pair", leasts[node[0]], leasts[node[1]], again
    outside = outsiders(few)
    ways = [row for state, row in Web(few, "states").rows_from(node).items() if state not in outside]
    return "out", leasts[node], again, ways[0]


def joined_by(few, grouping, family, join):
    """Two states whose groups a join joins, None if it is not so; few is the device of the groups made so far."""
    leasts = least_states(grouping)
    if join[0] == "pair":
        _, one, other, again = join
        pair = joined_pair(grouping[one], grouping[other])
        if pair is None or pair not in like_pairs(few) or not is_kept_round(few, family, pair, again):
            return None
        return one, other
    _, state, again, way = join
    group = grouping[state]
    outside = outsiders(few)
    if group not in outside or not is_kept_round(few, family, [group], again) or row_end(few, group, way) in outside:
        return None
    kept = effect_square(row_effect(few, again))
    led = effect_square(joined_effects(kept, row_effect(few, way)))
    return state, leasts[kept[led[group]]]


def is_kept_round(device, family, states, row):
    """Whether a row is a round that leads each of some states to itself."""
    return fills(family, row) and all([row_end(device, state, row) == state for state in states])


def finest_together(device, family=None):
    """The finest grouping any two of whose groups are sure."""
    told = told_family(device, family)
    web = Web(device, "pairs")
    return grown_grouping(device, [pair for number in full_lots(web, told) for pair in web.knots[number]])


def finest_right(device):
    """The finest grouping whose device is told yes with the signals of each lot alone."""
    grouping = single_grouping(device)
    for lot in all_lots(device.signals):
        few = grouped_device(device, grouping)
        leasts = least_states(grouping)
        # what must be joined with fewer signals must be joined with all
        links = [(leasts[one], leasts[other]) for one, other in group_links(finest_yes(few_signals(few, lot)))]
        grouping = grown_grouping(device, group_links(grouping) + links)
    return grouping


def finest_counter(device):
    """The finest grouping on whose groups each signal is one to one and any two signals commute."""
    grouping = single_grouping(device)
    faults = counter_faults(device)
    while faults:
        leasts = least_states(grouping)
        links = [(leasts[one], leasts[other]) for one, other in faults]
        grouping = grown_grouping(device, group_links(grouping) + links)
        faults = counter_faults(grouped_device(device, grouping))
    return grouping


def counter_faults(device):
    """The pairs of states that a signal joins, and of those to which two signals lead a state by their order."""
    states = range(device.states)
    faults = []
    for table in device.tables:
        faults += [(one, other) for one in states for other in states if one < other and table[one] == table[other]]
        for more in device.tables:
            ends = [(more[table[state]], table[more[state]]) for state in states]
            faults += [(one, other) for one, other in ends if one < other]
    return faults


def finest_paper(device, family=None):
    """The paper of the joins that make the finest grouping told yes, and of what shows that it is told so."""
    told = told_family(device, family)
    grouping, joins = finest_joins(device, told)
    return "finest", joins, yes_paper(grouped_device(device, grouping), told)


def check_finest(device, family, value):
    """Raise PaperFault for any value that is no paper of the finest grouping, with the place of the first fault."""
    told = told_family(device, family)
    if not is_finest_form(device, value):
        raise PaperFault(0)
    _, joins, paper = value
    grouping = single_grouping(device)
    few = device
    for at, join in enumerate(joins):
        pair = joined_by(few, grouping, told, join)
        if pair is None:
            raise PaperFault(at + 1)
        grouping = grown_grouping(device, group_links(grouping) + [pair])
        few = grouped_device(device, grouping)
    if not yes_holds(few, told, paper):
        raise PaperFault(len(joins) + 1)


def is_finest_form(device, value):
    """Whether any value is a sequence of "finest", a sequence of joins, and anything."""
    if not is_sequence_of(value, 3) or value[0] != "finest" or not is_sequence(value[1]):
        return False
    return all([is_join(device, join) for join in value[1]])


def is_join(device, value):
    """Whether any value has the form of a join."""
    if not is_sequence_of(value, 4):
        return False
    word, state, second, row = value
    if not is_state(device, state) or not is_row(device, row):
        return False
    return word == "pair" and is_state(device, second) or word == "out" and is_row(device, second)


def finest_holds(device, family, value):
    """Whether any value is a paper of the finest grouping told yes."""
    try:
        check_finest(device, family, value)
    except PaperFault:
        return False
    return True

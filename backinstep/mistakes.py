"""Mistakes: copies that hear another row than the one that was said."""

from backinstep.basics import check_row, check_state, is_row, is_sequence, is_sequence_of, is_state
from backinstep.classes import class_device, class_numbers
from backinstep.devices import joined_effects, row_effect, row_end
from backinstep.errors import NoState, TooGreat
from backinstep.families import check_family
from backinstep.hours import Hours
from backinstep.notes import keeps_apart
from backinstep.sure import apart_paper
from backinstep.webs import joined_pair


def wrong_ends(device, family, said, heard, states):
    """By state of a sequence, all for None, that two rows lead to two that are not sure, these two; ascending."""
    told = check_family(device, family)
    check_row(device, said)
    check_row(device, heard)
    places = list(range(device.states)) if states is None else states
    if not is_sequence(places):
        raise NoState(places)
    for state in places:
        check_state(device, state)
    numbers = class_numbers(device, told)
    straight = row_effect(device, said)
    turned = row_effect(device, heard)
    wrong = [state for state in sorted(set(places)) if numbers[straight[state]] != numbers[turned[state]]]
    return {state: joined_pair(straight[state], turned[state]) for state in wrong}


def heals_mistake(device, family, said, heard, *, states=None):
    """Whether two rows lead each of some states to one state or to two that are sure."""
    return not wrong_ends(device, family, said, heard, states)


def mistaken_paper(device, family, said, heard, *, states=None):
    """The paper of the least state that a mistake leads astray for ever, None if it heals."""
    wrong = wrong_ends(device, family, said, heard, states)
    if not wrong:
        return None
    state, pair = list(wrong.items())[0]
    _, _, row, again = apart_paper(device, family, pair)
    return "mistaken", state, row, again


def mistaken_holds(device, family, said, heard, value):
    """Whether any value is a paper of a state that a mistake leads astray for ever."""
    told = check_family(device, family)
    check_row(device, said)
    check_row(device, heard)
    if not is_sequence_of(value, 4):
        return False
    word, state, row, again = value
    if word != "mistaken" or not is_state(device, state) or not is_row(device, row) or not is_row(device, again):
        return False
    pair = joined_pair(row_end(device, state, said), row_end(device, state, heard))
    return pair is not None and keeps_apart(device, told, pair, row, again)


def lasting_exchange(device, family, number):
    """The first (state, signal, signal) of a closed district whose exchange does not heal there, or None."""
    numbers = class_numbers(device, family)
    tables = list(zip(device.signals, device.tables))
    for state in Hours(device, number).district:
        for one, table in tables:
            for other, more in tables:
                if one < other and numbers[more[table[state]]] != numbers[table[more[state]]]:
                    return state, one, other
    return None


def heals_exchanges(device, family, number):
    """Whether in a closed district each exchange of two neighbouring signals heals."""
    return lasting_exchange(device, family, number) is None


def kind_rows(device, family, *, most):
    """The first row of each kind: heard as one another, rows of one kind heal for all states."""
    classes = class_device(device, family)
    tables = list(zip(classes.signals, classes.tables))
    queue = [tuple(range(classes.states))]
    rows = {queue[0]: ""}
    at = 0
    while at < len(queue):
        effect = queue[at]
        for sign, table in tables:
            more = joined_effects(effect, table)
            if more not in rows:
                if len(queue) >= most:
                    raise TooGreat(most)
                rows[more] = rows[effect] + sign
                queue.append(more)
        at += 1
    return tuple(rows.values())

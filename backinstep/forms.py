"""Other names for the states and signals of a device."""

from backinstep.basics import check_signal, is_sequence_of, is_state
from backinstep.devices import Device, signal_tables
from backinstep.errors import BadDevice, Refused, TooGreat

MOST_SIGNALS = 5


def renamed_device(device, names):
    """The device with new names of its states."""
    if not is_sequence_of(names, device.states) or not all([is_state(device, name) for name in names]):
        raise BadDevice(0)
    if len(set(names)) != device.states:
        raise BadDevice(0)
    states = sorted(range(device.states), key=lambda state: names[state])
    return Device([[names[table[state]] for state in states] for table in device.tables])


def swapped_signals(device, signals):
    """The device whose k-th signal does what the k-th of some signals did."""
    if not isinstance(signals, str) or "".join(sorted(signals)) != device.signals:
        raise Refused(signals)
    return Device(swapped_tables(device, signals))


def doubled_signal(device, signal):
    """The device with one signal more that does what a signal does."""
    check_signal(device, signal)
    if len(device.signals) == MOST_SIGNALS:
        raise TooGreat(MOST_SIGNALS)
    return Device(list(device.tables) + [signal_tables(device)[signal]])


def alike_names(one, other):
    """The first signals, and names for them, with which one device becomes the other one; or None."""
    if one.states != other.states or one.signals != other.signals:
        return None
    return grown_names(one, other, "", [0] * (2 * one.states))


def grown_names(one, other, signals, kinds):
    """The first names and signals that begin with some, of which the kinds are as told; or None."""
    tables = tables_beside(swapped_tables(one, signals), other.tables)
    kinds = finest_kinds(tables, kinds)
    if sorted(kinds[:one.states]) != sorted(kinds[one.states:]):
        return None
    if len(signals) == len(one.signals):
        names = filled_names({}, tables, kinds)
        return None if names is None else (names, signals)
    for sign in one.signals:
        if sign not in signals:
            found = grown_names(one, other, signals + sign, kinds)
            if found is not None:
                return found
    return None


def own_names(device):
    """How many namings of the states leave the device as it is."""
    tables = tables_beside(device.tables, device.tables)
    kinds = finest_kinds(tables, [0] * (2 * device.states))
    many = 1
    known = {}
    # namings that keep the first states fall into equally many for each name that the next one can have
    for state in range(device.states):
        begins = [with_name(known, state, name, tables, kinds) for name in range(device.states)]
        many *= len([begin for begin in begins if begin is not None and filled_names(begin, tables, kinds) is not None])
        known = begins[state]
    return many


def swapped_tables(device, signals):
    """The tables of some signals, in this order."""
    tables = signal_tables(device)
    return [tables[sign] for sign in signals]


def tables_beside(tables, others):
    """The tables of two devices side by side, as many as there are of the first."""
    return [list(table) + [state + len(other) for state in other] for table, other in zip(tables, others)]


def filled_names(known, tables, kinds):
    """The first names of all states of the first device that agree with those known, or None."""
    states = range(len(kinds) // 2)
    open_states = [state for state in states if state not in known]
    if not open_states:
        return tuple([known[state] for state in states])
    for name in states:
        more = with_name(known, open_states[0], name, tables, kinds)
        names = None if more is None else filled_names(more, tables, kinds)
        if names is not None:
            return names
    return None


def with_name(known, state, name, tables, kinds):
    """The known names with that of one state and all that follow from it, or None if they do not fit."""
    size = len(kinds) // 2
    names = dict(known)
    used = {known[place]: True for place in known}
    trail = [(state, name)]
    while trail:
        place, called = trail.pop()
        if place in names:
            if names[place] != called:
                return None
        elif called in used or kinds[place] != kinds[called + size]:
            return None
        else:
            names[place] = called
            used[called] = True
            for table in tables:
                trail.append((table[place], table[called + size] - size))
    return names


def finest_kinds(tables, kinds):
    """By state a kind, as fine as steps there and back make it: states of unlike kinds cannot have one name."""
    sources = [table_sources(table, len(kinds)) for table in tables]
    many = 0
    while len(set(kinds)) > many:
        many = len(set(kinds))
        signs = [kind_sign(tables, sources, kinds, state) for state in range(len(kinds))]
        numbers = {sign: number for number, sign in enumerate(sorted(set(signs)))}
        kinds = [numbers[sign] for sign in signs]
    return kinds


def table_sources(table, size):
    """By state those that a table leads to it."""
    sources = [[] for _ in range(size)]
    for state, goal in enumerate(table):
        sources[goal].append(state)
    return sources


def kind_sign(tables, sources, kinds, state):
    """What tells the kind of a state: its own, those to which and those from which signals lead."""
    ahead = tuple([kinds[table[state]] for table in tables])
    behind = tuple([tuple(sorted([kinds[place] for place in by_state[state]])) for by_state in sources])
    return kinds[state], ahead, behind

"""What mends a device: further signals, rows that cure it, signals that are tied, entries that are turned."""

from backinstep.basics import is_row, is_sequence, is_sequence_of, is_signal, is_state
from backinstep.beside import row_device, row_family
from backinstep.devices import Device, is_table, joined_effects, row_effect, signal_tables
from backinstep.entries import image_rows, seat_rows
from backinstep.errors import Refused, TooGreat
from backinstep.families import plain_family
from backinstep.hours import hour_total
from backinstep.sure import far_pairs
from backinstep.verdicts import is_yes, need_yes, told_family
from backinstep.webs import Web, web_districts

MOST_SIGNALS = 5
MOST_KEPT = 4
MOST_MENDED = 8


def check_table(device, table):
    """Raise Refused for any value that does not tell a state by state."""
    if not is_table(table, device.states):
        raise Refused(table)


def more_signals(device, table):
    """The device with a further signal."""
    check_table(device, table)
    if len(device.signals) >= MOST_SIGNALS:
        raise TooGreat(MOST_SIGNALS)
    return Device(list(device.tables) + [table])


def is_commuting_table(device, table):
    """Whether a table commutes with all signals."""
    check_table(device, table)
    return all([joined_effects(table, told) == joined_effects(told, table) for told in device.tables])


def keeping_tables(device):
    """The tables that, as a further signal, leave a device told yes so, ascending."""
    need_yes(device)
    if device.states > MOST_KEPT or len(device.signals) > MOST_KEPT:
        raise TooGreat(MOST_KEPT)
    states = range(device.states)
    tables = [()]
    for _ in states:
        tables = [table + (goal,) for table in tables for goal in states]
    return tuple([table for table in tables if is_yes(more_signals(device, table))])


def check_mended(device):
    """Raise TooGreat for a device of too many states."""
    if device.states > MOST_MENDED:
        raise TooGreat(MOST_MENDED)


def least_places(device):
    """The fewest places that a row leaves taken."""
    check_mended(device)
    return min([len(places) for places in image_rows(device)])


def cure_row(device):
    """The first row that leaves as many places as there are hours, None if there is none."""
    check_mended(device)
    rows = list(seat_rows(device).values())
    return rows[0] if rows else None


def cure_paper(device):
    """The paper of a row that leaves as many places as there are hours, or of sets that show that there is none."""
    row = cure_row(device)
    return ("sets", tuple(sorted(list(image_rows(device))))) if row is None else ("row", row)


def cure_holds(device, value):
    """Whether any value is a paper of such a row or of such sets."""
    if not is_sequence_of(value, 2):
        return False
    word, told = value
    if word == "row":
        return is_row(device, told) and len(set(row_effect(device, told))) == hour_total(device)
    return word == "sets" and are_great_sets(device, told)


def are_great_sets(device, value):
    """Whether any value is sets that signals lead to one another, all states among them, none as small as the hours."""
    if not is_sequence(value) or not all([is_state_set(device, states) for states in value]):
        return False
    sets = {tuple(sorted(states)): True for states in value}
    if tuple(range(device.states)) not in sets or min([len(states) for states in sets]) <= hour_total(device):
        return False
    return all([tuple(sorted(set([table[state] for state in states]))) in sets
                for table in device.tables for states in sets])


def is_state_set(device, value):
    """Whether any value is a sequence of unlike states."""
    if not is_sequence(value) or not all([is_state(device, state) for state in value]):
        return False
    return len(set(value)) == len(value)


def all_ties(device):
    """All books: tuples of rows in which each signal stands just once, those of most rows first."""
    books = [()]
    for sign in device.signals:
        books = [more for book in books for more in longer_books(book, sign)]
    return tuple(sorted([tuple(sorted(book)) for book in books], key=lambda book: (-len(book), book)))


def longer_books(book, sign):
    """The books that are made by putting one signal more into some book."""
    books = [book + (sign,)]
    for at, row in enumerate(book):
        for place in range(len(row) + 1):
            books.append(book[:at] + (row[:place] + sign + row[place:],) + book[at + 1:])
    return books


def fewest_ties(device, family=None):
    """The first book with which the device is told yes."""
    told = told_family(device, family)
    for book in all_ties(device):
        if is_yes(row_device(device, book), row_family(device, book, told)):
            return book
    return None


def turned_device(device, turns):
    """The device with some turns, each of another entry."""
    if not is_sequence(turns) or not all([is_turn(device, turn) for turn in turns]):
        raise Refused(turns)
    if len(set([(state, sign) for state, sign, _ in turns])) < len(turns):
        raise Refused(turns)
    return with_turns(device, turns)


def is_turn(device, value):
    """Whether any value is a turn: a state, a signal and another goal than before."""
    if not is_sequence_of(value, 3):
        return False
    state, sign, goal = value
    if not is_state(device, state) or not is_signal(device, sign) or not is_state(device, goal):
        return False
    return signal_tables(device)[sign][state] != goal


def with_turns(device, turns):
    """The device with some turns that are known to be such."""
    tables = [list(table) for table in device.tables]
    for state, sign, goal in turns:
        tables[device.signals.index(sign)][state] = goal
    return Device(tables)


def all_turns(device):
    """All turns, ascending."""
    states = range(device.states)
    tables = signal_tables(device)
    entries = [(state, sign) for state in states for sign in tables]
    return [(state, sign, goal) for state, sign in entries for goal in states if tables[sign][state] != goal]


def fewest_turns(device, wish, *, most):
    """Of the tuples of the fewest turns with which a wish comes true the first one."""
    if wish != "yes" and wish != "together":
        raise Refused(wish)
    check_mended(device)
    turns = all_turns(device)
    looked = 0
    # with one turn fewer than there are states a signal can be made to lead all states to one
    for many in range(device.states):
        trail = [((), 0)]
        while trail:
            chosen, at = trail.pop()
            if len(chosen) < many:
                trail += longer_turns(turns, chosen, at)[::-1]
            else:
                looked += 1
                if looked > most:
                    raise TooGreat(most)
                if is_mended(with_turns(device, chosen), wish):
                    return chosen
    return None


def longer_turns(turns, chosen, at):
    """Some turns with one more, of a later entry than theirs, each with the place behind it."""
    nodes = [(turn, place + 1) for place, turn in enumerate(turns) if place >= at]
    return [(chosen + (turn,), place) for turn, place in nodes if not chosen or turn[:2] != chosen[-1][:2]]


def is_mended(device, wish):
    """Whether a device is as wished: told yes, or any two of its states sure."""
    return is_yes(device) if wish == "yes" else not far_pairs(device, plain_family(device))


def turn_bounds(device):
    """Two numbers between which that of the fewest turns lies that make any two states sure."""
    check_mended(device)
    web = Web(device, "pairs")
    full = [knot for knot, held in zip(web.knots, web.held) if held == device.signals]
    if not full:
        return 0, 0
    lots = sorted(set([tuple(sorted(set([state for pair in knot for state in pair]))) for knot in full]))
    met = max([table.count(goal) for table in device.tables for goal in table])
    return max(len(web_districts(device)) - 1, most_apart(lots)), device.states - met


def most_apart(lots):
    """The greatest number of some lots of states that have, two by two, no state in common."""
    if not lots:
        return 0
    first = lots[0]
    rest = lots[1:]
    beside = [lot for lot in rest if not any([state in first for state in lot])]
    # without a lot that is in the way the first one can always be taken
    if len(beside) == len(rest):
        return 1 + most_apart(rest)
    return max(most_apart(rest), 1 + most_apart(beside))

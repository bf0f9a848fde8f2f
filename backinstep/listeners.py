"""Listeners: machines with few memories that hear the signals and say which state is taken."""

from backinstep.basics import (
    check_row, check_state, is_number_to, is_row, is_sequence, is_sequence_of, is_state, lies_in,
)
from backinstep.classes import group_numbers, sure_classes
from backinstep.devices import MOST_STATES, is_table, row_end
from backinstep.errors import Refused
from backinstep.families import check_family, fills, led_from, lot_steps
from backinstep.kept import cut_graph, cut_heights
from backinstep.late import lasting_states
from backinstep.webs import first_rows, held_lot, part_moves, strong_parts, tour_back


class Listener:
    """A machine with numbered memories: what it says, how signals move it, where it starts."""

    def __init__(self, device, says, moves, starts):
        if not are_sayings(device, says):
            raise Refused(says)
        if not is_sequence_of(moves, len(device.signals)) or not all([is_table(table, len(says)) for table in moves]):
            raise Refused(moves)
        if not are_starts(device, starts, len(says)):
            raise Refused(starts)
        self.device = device
        self.says = tuple(says)
        self.moves = tuple([tuple(table) for table in moves])
        self.starts = tuple(starts)

    def __eq__(self, other):
        return (
            isinstance(other, Listener) and self.device == other.device and self.says == other.says
            and self.moves == other.moves and self.starts == other.starts
        )

    def memory_after(self, state, row):
        """The memory to which a row leads that of a state."""
        check_state(self.device, state)
        check_row(self.device, row)
        return memory_behind(self, self.starts[state], row)

    def place_said(self, state, row):
        """The state that is said behind a row if the listener came when a state was taken."""
        return self.says[self.memory_after(state, row)]


def are_sayings(device, value):
    """Whether any value tells a state by memory, of 1 to 60 memories."""
    if not is_sequence(value) or not 1 <= len(value) <= MOST_STATES:
        return False
    return all([is_state(device, state) for state in value])


def are_starts(device, value, many):
    """Whether any value tells by state one of so many memories."""
    return is_sequence_of(value, device.states) and all([is_number_to(memory, 0, many - 1) for memory in value])


def memory_behind(listener, memory, row):
    """The memory to which a row that is known to be one leads a memory."""
    tables = dict(zip(listener.device.signals, listener.moves))
    for sign in row:
        memory = tables[sign][memory]
    return memory


def check_listener(device, listener):
    """Raise Refused for any value that is no listener of an equal device."""
    if not isinstance(listener, Listener) or listener.device != device:
        raise Refused(listener)


def start_nodes(listener):
    """By state it and the memory of who comes when it is taken."""
    return list(enumerate(listener.starts))


def says_wrong(listener, node):
    """Whether a memory says another state than the one that is taken."""
    state, memory = node
    return listener.says[memory] != state


def wrong_moves(listener):
    """By (state, memory) its steps, as far as rows lead there and from there to a wrong saying."""
    tables = list(zip(listener.device.signals, listener.device.tables, listener.moves))

    def moves_of(node):
        state, memory = node
        return [(move, (table[state], told[memory])) for move, table, told in tables]

    moves = {node: moves_of(node) for node in led_from(moves_of, start_nodes(listener))}
    sources = {node: [] for node in moves}
    for node, steps in moves.items():
        for sign, goal in steps:
            sources[goal].append((sign, node))
    wrong = [node for node in moves if says_wrong(listener, node)]
    return part_moves(moves, led_from(lambda node: sources[node], wrong))


def listener_rounds(device, family, listener):
    """The least number of rounds behind which the true state is always said, None if there is none."""
    told = check_family(device, family)
    check_listener(device, listener)
    moves = wrong_moves(listener)
    starts = [node for node in start_nodes(listener) if node in moves]
    heights = cut_heights(cut_graph(lambda node: moves[node], lot_steps(device, told), starts))
    rounds = [heights[(node, "")] for node in starts]
    return None if None in rounds else max([most + 1 for most in rounds] + [0])


def misled_paper(device, family, listener):
    """The paper of rows with ever more rounds behind which a wrong state is said, None if there are none."""
    told = check_family(device, family)
    check_listener(device, listener)
    moves = wrong_moves(listener)
    for part in strong_parts(moves):
        inside = part_moves(moves, part)
        lots = [lot for lot in told if lies_in(lot, held_lot(inside))]
        if lots:
            goal = part[0]
            ahead = first_rows(goal, lambda node: moves[node])
            more = [row for node, row in ahead.items() if says_wrong(listener, node)][0]
            state, row = row_from_start(listener, moves, goal)
            return "misled", state, row, tour_back(inside, goal, lots[0]), more
    return None


def row_from_start(listener, moves, goal):
    """The least state from which a row leads to a (state, memory), and the first such row."""
    for start in start_nodes(listener):
        if start in moves:
            rows = first_rows(start, lambda node: moves[node])
            if goal in rows:
                return start[0], rows[goal]
    return None


def misled_holds(device, family, listener, value):
    """Whether any value is a paper of rows with ever more rounds behind which a wrong state is said."""
    told = check_family(device, family)
    check_listener(device, listener)
    if not is_sequence_of(value, 5):
        return False
    word, state, row, again, more = value
    if word != "misled" or not is_state(device, state):
        return False
    if not all([is_row(device, part) for part in (row, again, more)]):
        return False
    place = node_behind(listener, (state, listener.starts[state]), row)
    if not fills(told, again) or node_behind(listener, place, again) != place:
        return False
    return says_wrong(listener, node_behind(listener, place, more))


def node_behind(listener, node, row):
    """The state and memory behind a row that is known to be one."""
    state, memory = node
    return row_end(listener.device, state, row), memory_behind(listener, memory, row)


def least_listener(device, family):
    """The listener with the fewest memories: the lasting states, then the classes without one."""
    lasting = lasting_states(device, family)
    classes = sure_classes(device, family)
    says = list(lasting)
    memories = {state: memory for memory, state in enumerate(lasting)}
    homes = []
    for group in classes:
        inside = [state for state in group if state in lasting]
        if not inside:
            says.append(group[0])
        homes.append(memories[inside[0]] if inside else len(says) - 1)
    starts = [homes[number] for number in group_numbers(classes)]
    moves = []
    for table in device.tables:
        # lasting states lead to lasting ones
        moves.append([memories[table[state]] if state in memories else starts[table[state]] for state in says])
    return Listener(device, says, moves, starts)

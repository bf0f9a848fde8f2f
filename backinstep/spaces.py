"""Loads, what they span, and whether all lots of a device are told yes."""

from math import gcd

from backinstep.basics import all_lots, are_integers, check_row
from backinstep.devices import few_signals, signal_tables
from backinstep.errors import Refused
from backinstep.hours import device_hours
from backinstep.verdicts import is_yes


def spare_load(basis, load):
    """A multiple of a load less loads of a basis, with noughts alone if the load is spanned by it.

    A basis tells by place a load that has there no nought; those told later have one there.
    """
    rest = list(load)
    for place, told in basis.items():
        if rest[place] != 0:
            top, bottom = told[place], rest[place]
            rest = least_multiple([number * top - less * bottom for number, less in zip(rest, told)])
    return rest


def least_multiple(load):
    """The load divided by what divides all its numbers."""
    common = 0
    for number in load:
        common = gcd(common, number)
        if common == 1:
            return load
    return load if common == 0 else [number // common for number in load]


def is_spanned(basis, load):
    """Whether a load is a sum of multiples of those of a basis."""
    return not any(spare_load(basis, load))


def take_load(basis, load):
    """Put a load into a basis if it is not spanned by it; tells whether it was put."""
    rest = least_multiple(spare_load(basis, load))
    for place, number in enumerate(rest):
        if number != 0:
            basis[place] = rest
            return True
    return False


def effect_load(effect):
    """The table of an effect, by state by state a 1 for the state that follows, as one load."""
    load = []
    for end in effect:
        load += [1 if state == end else 0 for state in range(len(effect))]
    return load


def weighted_rows(tables, weights):
    """By state by state the sum of the weights of the tables that lead there."""
    size = len(tables[0])
    rows = [[0] * size for _ in range(size)]
    for table, weight in zip(tables, weights):
        for state, goal in enumerate(table):
            rows[state][goal] += weight
    return rows


def power_trace(table, times, modulus):
    """The numbers at the places (i, i) of a table taken so many times, added up; modulo a number if it is not None."""
    size = len(table)
    power = [[1 if row == column else 0 for column in range(size)] for row in range(size)]
    for at in reversed(range(times.bit_length())):
        power = table_product(power, power, modulus)
        if times >> at & 1:
            power = table_product(power, table, modulus)
    total = sum([power[at][at] for at in range(size)])
    return total if modulus is None else total % modulus


def table_product(one, other, modulus):
    """The product of two tables, modulo a number if it is not None."""
    columns = [[row[at] for row in other] for at in range(len(other))]
    product_rows = [[sum([left * right for left, right in zip(row, column)]) for column in columns] for row in one]
    if modulus is None:
        return product_rows
    return [[number % modulus for number in row] for row in product_rows]


def check_load(device, load):
    """Raise Refused for any value that is no load."""
    if not are_integers(load, device.states):
        raise Refused(load)


def load_behind(load, table):
    """The load moved by a signal, told by its table."""
    moved = [0] * len(load)
    for number, goal in zip(load, table):
        moved[goal] += number
    return moved


def moved_load(device, load, row):
    """The load moved by a row: each entry goes to the next state, and what comes together is added."""
    check_load(device, load)
    check_row(device, row)
    tables = signal_tables(device)
    moved = list(load)
    for sign in row:
        moved = load_behind(moved, tables[sign])
    return tuple(moved)


def unit_loads(states):
    """The loads with a 1 at one state alone."""
    return [[1 if place == state else 0 for place in range(states)] for state in range(states)]


def exchange_loads(device, load):
    """For signals x before y the load moved by x and y, less the load moved by y and x."""
    loads = []
    for at, one in enumerate(device.tables):
        for other in device.tables[at + 1:]:
            straight = load_behind(load_behind(load, one), other)
            turned = load_behind(load_behind(load, other), one)
            loads.append([number - less for number, less in zip(straight, turned)])
    return loads


def next_space(device, loads):
    """Loads that span what comes of exchanging signals on those that some loads span, and what signals make of it."""
    basis = {}
    queue = [more for load in loads for more in exchange_loads(device, load)]
    taken = []
    at = 0
    while at < len(queue):
        load = queue[at]
        if take_load(basis, load):
            taken.append(load)
            for table in device.tables:
                queue.append(load_behind(load, table))
        at += 1
    return taken


def chain_spaces(device):
    """Loads that span U1, U2, .. down to nothing or to the last one that is unlike the one before."""
    spaces = [unit_loads(device.states)]
    while spaces[-1]:
        later = next_space(device, spaces[-1])
        if len(later) == len(spaces[-1]):
            break
        spaces.append(later)
    return spaces[1:]


def chain_sizes(device):
    """How many loads are needed to span U0, U1, .. down to 0 or to the first that stays."""
    return (device.states,) + tuple([len(loads) for loads in chain_spaces(device)])


def is_right(device):
    """Whether the device is told yes with the signals of each lot alone."""
    return all([is_yes(few_signals(device, lot)) for lot in all_lots(device.signals)])


def is_which_lot(device, lot):
    """Whether the device is told yes with the signals of a lot alone, and each closed district has one hour then."""
    few = few_signals(device, lot)
    return is_yes(few) and all([hours.size == 1 for hours in device_hours(few)])


def is_which(device):
    """Whether rows with the same signals in them always leave equally many states alone."""
    return all([is_which_lot(device, lot) for lot in all_lots(device.signals)])

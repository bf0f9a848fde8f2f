"""Staircases: lots of vectors of integers, told by steps."""

from math import gcd

from backinstep.basics import is_integer, is_sequence, is_sequence_of
from backinstep.errors import Refused, TooGreat

MOST_WIDTH = 5
MOST_RESTS = 10000


def is_stair(value):
    """Whether any value is a staircase, perhaps written with lists."""
    if not is_sequence(value) or not 1 <= len(value) <= MOST_WIDTH:
        return False
    width = len(value)
    for row in value:
        if not is_sequence_of(row, width) or not all([is_integer(number) for number in row]):
            return False
    steps = [value[index][index] for index in range(width)]
    return all([is_stair_row(row, index, steps) for index, row in enumerate(value)])


def is_stair_row(row, index, steps):
    """Whether integers are the row with an index of a staircase with some steps."""
    ahead = [number for number in row[:index] if number != 0]
    later = [at for at in range(index + 1, len(row)) if not 0 <= row[at] < steps[at]]
    return steps[index] >= 1 and not ahead and not later


def stair_of(width, vectors):
    """The staircase in which just the whole sums of some vectors are."""
    rows = laid_rows(width, vectors)
    for index, row in enumerate(rows):
        if not row:
            raise Refused(index)
    return tuple([tuple(row) for row in rows])


def laid_rows(width, vectors):
    """By index the row of the staircase of some vectors, empty where there is no step.

    What vectors have behind their width goes along: it is added and taken off as the vectors are.
    """
    rows = [[] for _ in range(width)]
    for vector in vectors:
        more = rows_with(width, rows, list(vector))
        if more != rows:
            rows = tidy_rows(more)
    return rows


def rows_with(width, rows, vector):
    """The rows, changed such that their whole sums hold one vector more."""
    kept = list(rows)
    for index in range(width):
        if vector[index] != 0 and not kept[index]:
            kept[index] = vector if vector[index] > 0 else [-number for number in vector]
            return kept
        # Euclid's way: the lesser of the two is taken off the other one until this is gone
        while vector[index] != 0:
            vector = less_times(vector, vector[index] // kept[index][index], kept[index])
            if vector[index] != 0:
                kept[index], vector = vector, kept[index]
    return kept


def tidy_rows(rows):
    """The rows, changed such that each has, at the later steps, numbers below the step."""
    tidy = []
    for row in rows:
        for later in range(len(tidy) + 1, len(rows)):
            if row and rows[later]:
                row = less_times(row, row[later] // rows[later][later], rows[later])
        tidy.append(row)
    return tidy


def less_times(vector, times, row):
    """A vector less a row so many times."""
    if times == 0:
        return vector
    return [number - times * less for number, less in zip(vector, row)]


def stair_rest(stair, vector):
    """The rest of a vector."""
    rest = list(vector)
    for index, row in enumerate(stair):
        rest = less_times(rest, rest[index] // row[index], row)
    return tuple(rest)


def in_stair(stair, vector):
    """Whether a vector is in a staircase."""
    return not any(stair_rest(stair, vector))


def stair_size(stair):
    """How many rests there are."""
    size = 1
    for index, row in enumerate(stair):
        size *= row[index]
    return size


def all_rests(stair):
    """All rests, ascending."""
    if stair_size(stair) > MOST_RESTS:
        raise TooGreat(MOST_RESTS)
    rests = [()]
    for index, row in enumerate(stair):
        rests = [rest + (number,) for rest in rests for number in range(row[index])]
    return tuple(rests)


def stair_within(one, other):
    """Whether each vector in the first staircase is in the second one."""
    return all([in_stair(other, row) for row in one])


def sum_stair(one, other):
    """The staircase of all sums of a vector in each."""
    return stair_of(len(one), list(one) + list(other))


def both_stair(one, other):
    """The staircase of the vectors in both."""
    width = len(one)
    # sums whose first half is gone have in their second half what the rows of one make, and those of the other too
    doubled = [list(row) + list(row) for row in one] + [list(row) + [0] * width for row in other]
    rows = laid_rows(2 * width, doubled)
    return tuple([tuple(row[width:]) for row in rows[width:]])


def stair_parts(stair):
    """The parts of a staircase: numbers from 2 on, each dividing the next one."""
    width = len(stair)
    while not is_diagonal(stair):
        stair = stair_of(width, [[row[index] for row in stair] for index in range(width)])
    parts = [stair[index][index] for index in range(width)]
    for index in range(width):
        for later in range(index + 1, width):
            common = gcd(parts[index], parts[later])
            parts[index], parts[later] = common, parts[index] * parts[later] // common
    return tuple([part for part in parts if part > 1])


def is_diagonal(stair):
    """Whether a staircase has nothing but its steps."""
    return not any([any(row[index + 1:]) for index, row in enumerate(stair)])

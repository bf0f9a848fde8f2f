"""Notes for late-comers: whether they are enough, how soon they are, and learners who were told one."""

from backinstep.basics import (
    MOST_NUMBER, check_row, is_number_to, is_row, is_sequence_of, is_told_pair,
)
from backinstep.classes import group_numbers, sure_classes
from backinstep.devices import signal_tables
from backinstep.errors import Refused
from backinstep.families import check_family, fills, lot_steps
from backinstep.kept import pair_heights
from backinstep.sure import apart_paper, is_kept_apart, led_pair
from backinstep.webs import Web


def check_notes(device, notes):
    """Raise Refused for any value that does not tell a number by state."""
    if not is_sequence_of(notes, device.states) or not all([is_number_to(note, 0, MOST_NUMBER) for note in notes]):
        raise Refused(notes)


def like_noted(notes):
    """The pairs of states with like notes, ascending."""
    states = range(len(notes))
    return [(one, other) for one in states for other in states if one < other and notes[one] == notes[other]]


def first_fooled(device, family, notes):
    """The first pair of like notes that is not sure for a checked family, or None."""
    web = Web(device, "pairs")
    for pair in like_noted(notes):
        if is_kept_apart(web, family, pair):
            return pair
    return None


def are_enough(device, family, notes):
    """Whether any two states with like notes are sure."""
    told = check_family(device, family)
    check_notes(device, notes)
    return first_fooled(device, told, notes) is None


def notes_rounds(device, family, notes):
    """The least number of rounds behind which the state is known to all who were told its note; or None."""
    told = check_family(device, family)
    check_notes(device, notes)
    pairs = like_noted(notes)
    heights = pair_heights(device, told, pairs)
    rounds = [heights[(pair, "")] for pair in pairs]
    return None if None in rounds else max([most + 1 for most in rounds] + [0])


def fooled_paper(device, family, notes):
    """The paper of two states with like notes that some fair row keeps apart, None if there are none."""
    told = check_family(device, family)
    check_notes(device, notes)
    pair = first_fooled(device, told, notes)
    if pair is None:
        return None
    _, _, row, again = apart_paper(device, told, pair)
    return "fooled", pair, row, again


def fooled_holds(device, family, notes, value):
    """Whether any value is a paper of two states with like notes that some fair row keeps apart."""
    told = check_family(device, family)
    check_notes(device, notes)
    if not is_sequence_of(value, 4):
        return False
    word, pair, row, again = value
    if word != "fooled" or not is_told_pair(device, pair) or not is_row(device, row) or not is_row(device, again):
        return False
    one, other = pair
    return notes[one] == notes[other] and keeps_apart(device, told, pair, row, again)


def keeps_apart(device, family, pair, row, again):
    """Whether a row leads a pair to one that another row, a round, leads to itself, perhaps turned about."""
    place = led_pair(device, pair, row)
    return place is not None and fills(family, again) and led_pair(device, place, again) == place


class Learner:
    """Was told the number of a class, and hears what comes."""

    def __init__(self, device, family, note):
        told = check_family(device, family)
        classes = sure_classes(device, told)
        if not is_number_to(note, 0, len(classes) - 1):
            raise Refused(note)
        self.device = device
        self.family = told
        self.note = note
        self.names = group_numbers(classes)
        self.steps = lot_steps(device, told)
        # where what was heard leads the states of the class, by least states
        self.ends = list(classes[note])
        self.given = ""
        self.cuts = 0

    def hear(self, row):
        """Go on with a row."""
        check_row(self.device, row)
        tables = signal_tables(self.device)
        for sign in row:
            table = tables[sign]
            self.ends = [table[state] for state in self.ends]
            self.given = self.steps[(self.given, sign)]
            self.cuts += 1 if self.given == "" else 0

    def place_told(self):
        """The state to which what was heard leads the least state of the class."""
        return self.ends[0]

    def places_open(self):
        """The states to which it leads the states of the class, ascending."""
        return tuple(sorted(set(self.ends)))

    def note_now(self):
        """The number of the class that holds all these states."""
        return self.names[self.ends[0]]

    def rounds_heard(self):
        """How many rounds were heard."""
        return self.cuts

    def next_learner(self):
        """A new learner, told the number of the class that now holds the state."""
        return Learner(self.device, self.family, self.note_now())

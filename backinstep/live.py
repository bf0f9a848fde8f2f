"""A live house: copies of one device that are told signals, with deeds that can be taken back."""

from backinstep.basics import check_row, check_signal, check_state, is_number_to, is_sequence
from backinstep.classes import places_bound
from backinstep.devices import row_effect, row_end
from backinstep.errors import Refused
from backinstep.families import least_lots, lot_steps
from backinstep.fates import pair_fate
from backinstep.fleets import fleet_rows, mend_number, state_offset
from backinstep.kept import most_rounds
from backinstep.mends import with_turns
from backinstep.webs import joined_pair


class Live:
    """Copies of a device, numbered as they are put, and what all were told."""

    def __init__(self, device, family):
        self.family = least_lots(device, family)
        self.device = device
        self.states = ()
        self.log = ""
        # by copy the place in the log from which on it heard what all were told, and nothing else
        self.marks = ()
        # how all stood before each deed, and behind each one that was taken back
        self.past = []
        self.ahead = []

    def __len__(self):
        return len(self.past)

    def standing(self):
        """How all stands."""
        return self.device, self.family, self.states, self.log, self.marks

    def stand(self, told):
        """Make all stand as it was told."""
        self.device, self.family, self.states, self.log, self.marks = told

    def keep_deed(self):
        """Keep how all stands, ahead of a deed that nothing is wrong with."""
        self.past.append(self.standing())
        self.ahead = []

    def check_copy(self, copy):
        """Raise Refused for any value that is no copy."""
        if not is_number_to(copy, 0, len(self.states) - 1):
            raise Refused(copy)

    def put_copy(self, state):
        """Put a copy in a state; returns its number."""
        check_state(self.device, state)
        self.keep_deed()
        self.states = self.states + (state,)
        self.marks = self.marks + (len(self.log),)
        return len(self.states) - 1

    def tell_all(self, row, *, missed=()):
        """Tell a row to all copies but those that miss it."""
        check_row(self.device, row)
        if not self.are_copies(missed):
            raise Refused(missed)
        self.keep_deed()
        effect = row_effect(self.device, row)
        deaf = {copy: True for copy in missed}
        self.log = self.log + row
        self.states = tuple([state if copy in deaf else effect[state] for copy, state in enumerate(self.states)])
        self.marks = tuple([len(self.log) if copy in deaf else mark for copy, mark in enumerate(self.marks)])

    def are_copies(self, value):
        """Whether any value is a sequence of unlike copies."""
        if not is_sequence(value) or not all([is_number_to(copy, 0, len(self.states) - 1) for copy in value]):
            return False
        return len(set(value)) == len(value)

    def tell_one(self, copy, row):
        """Tell a row to one copy alone."""
        self.check_copy(copy)
        check_row(self.device, row)
        self.keep_deed()
        end = row_end(self.device, self.states[copy], row)
        self.states = self.states[:copy] + (end,) + self.states[copy + 1:]
        self.marks = self.marks[:copy] + (len(self.log),) + self.marks[copy + 1:]

    def mark_all(self):
        """Let all copies begin anew to hear what all are told."""
        self.marks = tuple([len(self.log) for _ in self.states])

    def turn_entry(self, state, signal, goal):
        """Let a signal lead a state to a goal from now on."""
        check_state(self.device, state)
        check_signal(self.device, signal)
        check_state(self.device, goal)
        self.keep_deed()
        self.device = with_turns(self.device, [(state, signal, goal)])
        self.mark_all()

    def take_family(self, family):
        """Take another family."""
        lots = least_lots(self.device, family)
        self.keep_deed()
        self.family = lots
        self.mark_all()

    def undo_deed(self):
        """Take the last deed back; tells whether there was one."""
        if not self.past:
            return False
        self.ahead.append(self.standing())
        self.stand(self.past.pop())
        return True

    def redo_deed(self):
        """Do the deed that was last taken back again; tells whether there was one."""
        if not self.ahead:
            return False
        self.past.append(self.standing())
        self.stand(self.ahead.pop())
        return True

    def within(self, work):
        """What some work on all this returns, or its error; then all is as before."""
        past = list(self.past)
        ahead = list(self.ahead)
        device, family, states, log, marks = self.standing()
        try:
            return work(self)
        finally:
            self.device, self.family, self.states, self.log, self.marks = device, family, states, log, marks
            self.past, self.ahead = past, ahead

    def taken(self):
        """The states of copies, ascending, each once."""
        return tuple(sorted(set(self.states)))

    def together(self):
        """The copies in one state, by their least ones."""
        groups = {}
        for copy, state in enumerate(self.states):
            groups[state] = groups.get(state, ()) + (copy,)
        return tuple(groups.values())

    def states_of(self, one, other):
        """The states of two copies, Refused for any value that is none."""
        self.check_copy(one)
        self.check_copy(other)
        return self.states[one], self.states[other]

    def fate(self, one, other):
        """The fate of two copies."""
        here, there = self.states_of(one, other)
        return pair_fate(self.device, self.family, here, there)

    def offset(self, one, other):
        """The hour of the second copy less that of the first one, None if no closed district holds both."""
        here, there = self.states_of(one, other)
        return state_offset(self.device, here, there)

    def private_number(self, one, other):
        """The fewest private signals that mend two copies, None if none do."""
        here, there = self.states_of(one, other)
        return mend_number(self.device, self.family, here, there)

    def private_rows(self):
        """By copy a row for it alone, so that all have one hour; None if no closed district holds all."""
        return fleet_rows(self.device, self.states)

    def fresh_rounds(self, copy):
        """How many rounds all were told behind the copy's mark."""
        self.check_copy(copy)
        return self.rounds_from(self.marks[copy])

    def rounds_from(self, mark):
        """How many rounds the log has behind a place."""
        steps = lot_steps(self.device, self.family)
        given = ""
        cuts = 0
        for sign in self.log[mark:]:
            given = steps[(given, sign)]
            cuts += 1 if given == "" else 0
        return cuts

    def due_rounds(self, one, other):
        """The most rounds through which some row keeps two copies apart, None if there is no most; -1 if none does."""
        here, there = self.states_of(one, other)
        if here == there:
            return -1
        return most_rounds(self.device, self.family, joined_pair(here, there))

    def most_taken(self):
        """How many states can be taken at most, by the rounds that all copies heard; 0 without a copy."""
        if not self.states:
            return 0
        rounds = self.rounds_from(max(self.marks))
        return min(len(self.states), places_bound(self.device, self.family, rounds))

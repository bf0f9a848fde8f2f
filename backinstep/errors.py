"""The errors of the package; each keeps what it was made with, as it was passed."""


class BackError(ValueError):
    """What all refusals have in common, but for a missing state, signal or pair."""


class BadDevice(BackError):
    """No device: the index of the wrong table, -1 for all of it."""

    def __init__(self, at):
        self.at = at


class BadRow(BackError):
    """No row: the index of the wrong sign, -1 for no string, 10000 for a row that is too long."""

    def __init__(self, at):
        self.at = at


class BadText(BackError):
    """No such text: the place that is wrong."""

    def __init__(self, at):
        self.at = at


class BadPieces(BackError):
    """No pieces of a row: the index of the wrong pair, -1 for all of it."""

    def __init__(self, at):
        self.at = at


class BadCounts(BackError):
    """No counts: the index of the wrong number, -1 for all of it."""

    def __init__(self, at):
        self.at = at


class BadFamily(BackError):
    """No family: the index of the wrong lot, -1 for all of it."""

    def __init__(self, at):
        self.at = at


class Refused(BackError):
    """A value, or its place, that a function does not take."""

    def __init__(self, at):
        self.at = at


class PaperFault(BackError):
    """A paper that does not hold: the number of the wrong part."""

    def __init__(self, at):
        self.at = at


class TooGreat(BackError):
    """More than the number that is told."""

    def __init__(self, most):
        self.most = most


class NotYes(BackError):
    """A device that is told no, with what shows it."""

    def __init__(self, witness):
        self.witness = witness


class NotSure(BackError):
    """Two states that are not sure."""

    def __init__(self, pair):
        self.pair = pair


class NoState(KeyError):
    """No state of the device."""

    def __init__(self, state):
        self.state = state


class NoSignal(KeyError):
    """No signal of the device."""

    def __init__(self, signal):
        self.signal = signal


class NoPair(KeyError):
    """No ascending pair of states of the device."""

    def __init__(self, pair):
        self.pair = pair

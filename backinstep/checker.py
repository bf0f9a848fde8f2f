"""Told papers: of what kind a paper is, what was asked, and the paper itself."""

from backinstep.basics import check_pair, is_sequence
from backinstep.classes import out_holds, out_paper
from backinstep.errors import BackError, NoPair, NoSignal, NoState, PaperFault, Refused
from backinstep.families import check_family
from backinstep.fates import fate_holds, fate_paper
from backinstep.fleets import mend_holds, mend_paper
from backinstep.groupings import finest_holds, finest_paper
from backinstep.hours import hours_holds, hours_paper
from backinstep.kept import most_holds, most_paper
from backinstep.late import lasting_holds, lasting_paper
from backinstep.lots import chain_holds, chain_paper, triangle_holds, triangle_paper
from backinstep.mends import cure_holds, cure_paper
from backinstep.mistakes import mistaken_holds, mistaken_paper
from backinstep.notes import fooled_holds, fooled_paper
from backinstep.stories import unlike_holds, unlike_paper
from backinstep.sure import apart_holds, apart_paper, sure_holds, sure_paper
from backinstep.verdicts import no_holds, no_paper, yes_holds, yes_paper

KINDS = (
    ("apart", 2), ("chain", 0), ("cure", 0), ("fate", 3), ("finest", 1), ("fooled", 2), ("hours", 0), ("lasting", 1),
    ("mend", 3), ("mistaken", 3), ("most", 2), ("no", 1), ("out", 1), ("sure", 1), ("triangle", 0), ("unlike", 0),
    ("yes", 1),
)


def paper_kinds():
    """The kinds of told papers, ascending, each with how many things its question has."""
    return KINDS


def makers():
    """By kind what makes a paper of it."""
    return {
        "apart": apart_paper, "chain": chain_paper, "cure": cure_paper, "fate": fate_paper, "finest": finest_paper,
        "fooled": fooled_paper, "hours": hours_paper, "lasting": lasting_paper, "mend": mend_paper,
        "mistaken": mistaken_paper, "most": most_paper, "no": no_paper, "out": out_paper, "sure": sure_paper,
        "triangle": triangle_paper, "unlike": unlike_paper, "yes": yes_paper,
    }


def checkers():
    """By kind what looks a paper of it through."""
    return {
        "apart": pair_holds, "chain": chain_holds, "cure": cure_holds, "fate": fate_holds, "finest": finest_holds,
        "fooled": fooled_holds, "hours": hours_holds, "lasting": lasting_holds, "mend": mend_holds,
        "mistaken": mistaken_holds, "most": most_holds, "no": no_holds, "out": out_holds, "sure": sure_holds,
        "triangle": triangle_holds, "unlike": unlike_holds, "yes": yes_holds,
    }


def pair_holds(device, family, pair, value):
    """Whether any value is a paper of rows that keep just this pair apart."""
    told = check_family(device, family)
    check_pair(device, pair)
    return apart_holds(device, told, value) and tuple(value[1]) == pair


def is_kind(value):
    """Whether any value is a kind of told papers."""
    return isinstance(value, str) and value in dict(KINDS)


def is_question(kind, value):
    """Whether any value is a tuple of as many things as the question of a kind has."""
    return isinstance(value, tuple) and len(value) == dict(KINDS)[kind]


def made_paper(device, kind, question):
    """A told paper of some kind that answers a question."""
    if not is_kind(kind):
        raise Refused(kind)
    if not is_question(kind, question):
        raise Refused(question)
    make = makers()[kind]
    paper = make(device, *question)
    if paper is None:
        raise Refused(question)
    return kind, question, paper


def check_paper(device, value):
    """Raise PaperFault for any value that is no told paper that holds: 0 for its form, 1 for its question, else 2."""
    if not isinstance(value, tuple) or len(value) != 3 or not is_kind(value[0]) or not is_question(value[0], value[1]):
        raise PaperFault(0)
    kind, question, paper = value
    holds = checkers()[kind]
    try:
        good = holds(device, *question, paper)
    except (BackError, NoState, NoSignal, NoPair):
        raise PaperFault(1) from None
    if not good:
        raise PaperFault(2)


def paper_holds(device, value):
    """Whether any value is a told paper that holds."""
    try:
        check_paper(device, value)
    except PaperFault:
        return False
    return True


def wrong_papers(device, values):
    """The indexes of those of a sequence that are no told papers that hold, ascending."""
    if not is_sequence(values):
        raise Refused(values)
    return tuple([at for at, value in enumerate(values) if not paper_holds(device, value)])

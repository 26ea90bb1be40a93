"""Sheets of evidence: questions with values that show what the answers are."""

from endsandround.common import is_integer, is_sequence, is_tuple_of
from endsandround.corners import corner_paper, is_corner_paper
from endsandround.court import court_paper, is_court_paper
from endsandround.errors import EndsError, InvalidQuestion, Refused
from endsandround.gaps import LIMIT
from endsandround.judge import built_harm, is_harm
from endsandround.machines import Machine
from endsandround.telling import is_telling, telling_machine

# How many things a question of each kind is made of.
SIZES = {"court": 1, "corners": 2, "harm": 2, "telling": 3}


def _is_kind(value):
    return isinstance(value, str) and value in SIZES


def _is_question(kind, value):
    # Whether any value is a question of a kind.
    if not is_tuple_of(SIZES[kind], value):
        return False
    if kind == "telling":
        return True
    if kind == "corners" and not (is_integer(value[1]) and 1 <= value[1] <= LIMIT):
        return False
    return isinstance(value[0], Machine)


def _made(kind, question):
    if kind == "court":
        return court_paper(question[0])
    if kind == "corners":
        return corner_paper(question[0], question[1])
    if kind == "harm":
        return built_harm(question[0], question[1])
    return telling_machine(question[0], question[1], question[2])


def _is_right(kind, question, value):
    if kind == "court":
        return is_court_paper(question[0], value)
    if kind == "corners":
        return is_corner_paper(question[0], question[1], value)
    if kind == "harm":
        return is_harm(question[0], question[1], value)
    return is_telling(question[0], question[1], question[2], value)


def sheet_holds(value):
    """Whether any value is a sheet that holds."""
    if not is_tuple_of(3, value):
        return False
    kind, question, shown = value
    if not _is_kind(kind) or not _is_question(kind, question):
        return False
    try:
        return _is_right(kind, question, shown)
    except EndsError:
        return False


def sheet(kind, question):
    """A sheet that holds, with a question of a kind."""
    if not _is_kind(kind):
        raise Refused(0)
    if not _is_question(kind, question):
        raise Refused(1)
    kept = tuple(list(asked) if isinstance(asked, list) else asked for asked in question)
    return kind, kept, _made(kind, kept)


def wrong_sheets(values):
    """The indexes of those of a sequence of any values that are no sheets that hold."""
    if not is_sequence(values):
        raise InvalidQuestion(0)
    return tuple(at for at, value in enumerate(values) if not sheet_holds(value))

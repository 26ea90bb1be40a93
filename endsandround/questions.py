"""Questions: what a machine shows at the end of a row, and which machine is enough to tell it."""

from endsandround.common import first_row, is_below, is_number, is_sequence
from endsandround.errors import InvalidQuestion
from endsandround.machines import Machine, checked_row, effect, end_state, reached_in_order, reaching_row


class Question:
    """Asks of each row what is shown at the state to which it leads the start."""

    def __init__(self, machine, start, answers):
        if not is_below(start, machine.states):
            raise InvalidQuestion(0)
        wrong = _wrong_answer(machine.states, answers)
        if wrong is not None:
            raise InvalidQuestion(1 + wrong)
        self.machine = machine
        self.start = start
        self.answers = tuple(answers)

    def __eq__(self, other):
        return (
            isinstance(other, Question)
            and self.machine == other.machine
            and self.start == other.start
            and self.answers == other.answers
        )


def _wrong_answer(states, answers):
    if not is_sequence(answers):
        return states
    for at, told in enumerate(answers):
        if not is_number(told):
            return at
    if len(answers) != states:
        return states
    return None


def answer(question, row):
    """The answer for the state to which a row leads the start."""
    return question.answers[end_state(question.machine, question.start, row)]


def _unlike_row_between(one, state, other, other_state):
    # The first of the shortest rows with unlike answers, each question taken from its own state.
    return first_row(
        (state, other_state),
        lambda pair: list(zip(one.machine.steps[pair[0]], other.machine.steps[pair[1]])),
        lambda pair: one.answers[pair[0]] != other.answers[pair[1]],
    )


def parting_row(question, one, other):
    """The first of the shortest rows that lead two states to unlike answers, or None."""
    return _unlike_row_between(question, one, question, other)


def unlike_row(one, other):
    """The first of the shortest rows for which two questions have unlike answers, or None."""
    return _unlike_row_between(one, one.start, other, other.start)


def _alike_kinds(question, states):
    # For each of some states, which lead to no others, a number that it shares with all that are alike.
    kinds = {state: question.answers[state] for state in states}
    many = 0
    while True:
        numbers = {}
        keys = {}
        for state in states:
            keys[state] = (kinds[state], *[kinds[target] for target in question.machine.steps[state]])
            numbers.setdefault(keys[state], len(numbers))
        if len(numbers) == many:
            return kinds
        many = len(numbers)
        kinds = {state: numbers[key] for state, key in keys.items()}


def least_question(question):
    """The question with the same answers and the fewest states, numbered as their first rows come."""
    states = reached_in_order(question.machine, question.start)
    kinds = _alike_kinds(question, states)
    numbers = {}
    chosen = []
    for state in states:
        if kinds[state] not in numbers:
            numbers[kinds[state]] = len(numbers)
            chosen.append(state)
    steps = [[numbers[kinds[target]] for target in question.machine.steps[state]] for state in chosen]
    return Question(Machine(question.machine.commands, steps), 0, [question.answers[state] for state in chosen])


def surroundings(question, row, other):
    """A pair of rows between which two rows are answered unlike, or None if there is none."""
    one_row = checked_row(question.machine.commands, row)
    other_row = checked_row(question.machine.commands, other)
    least = least_question(question)
    ends = list(zip(effect(least.machine, one_row), effect(least.machine, other_row)))
    for state, (one_end, other_end) in enumerate(ends):
        if one_end != other_end:
            return reaching_row(least.machine, 0, state), parting_row(least, one_end, other_end)
    return None

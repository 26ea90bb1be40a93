"""Points 9 and 10: questions and surroundings."""

import unittest
from random import Random

from endsandround.errors import InvalidQuestion, InvalidRow
from endsandround.machines import Machine, effect, reached
from endsandround.questions import Question, answer, least_question, parting_row, surroundings, unlike_row
from tests import brute
from tests.checks import Case

MACHINE = Machine(2, [(1, 2), (0, 3), (3, 0), (2, 1)])


def random_questions(seed, many, **sizes):
    random = Random(seed)
    for machine in brute.random_machines(seed, many, **sizes):
        start = random.randrange(machine.states)
        yield Question(machine, start, [random.choice((0, 0, 1)) for _ in range(machine.states)])


def first_parting(machine, answers, one, other, longest):
    for length in range(longest + 1):
        for row in brute.rows(machine.commands, length):
            if answers[brute.run(machine, one, row)] != answers[brute.run(machine, other, row)]:
                return row
    return None


class QuestionTest(Case):
    def test_attributes(self):
        question = Question(MACHINE, 1, [0, 5, 10 ** 30, 0])
        self.assertEqual(question.machine, MACHINE)
        self.assertEqual((question.start, question.answers), (1, (0, 5, 10 ** 30, 0)))
        self.assertIs(type(question.answers), tuple)
        named = Question(answers=(0, 5, 10 ** 30, 0), machine=MACHINE, start=1)
        self.assertTrue(named == question)

    def test_later_changes_have_no_effect(self):
        answers = [0, 1, 0, 1]
        question = Question(MACHINE, 0, answers)
        answers[0] = 7
        answers.append(1)
        self.assertEqual(question.answers, (0, 1, 0, 1))

    def test_equal(self):
        question = Question(MACHINE, 0, (0, 1, 0, 1))
        self.assertTrue(question == Question(MACHINE, 0, [0, 1, 0, 1]))
        self.assertFalse(question == Question(MACHINE, 1, (0, 1, 0, 1)))
        self.assertFalse(question == Question(MACHINE, 0, (0, 1, 0, 2)))
        self.assertFalse(question == Question(Machine(2, [(0, 0)] * 4), 0, (0, 1, 0, 1)))
        for other in (MACHINE, (MACHINE, 0, (0, 1, 0, 1)), None, 0):
            self.assertFalse(question == other)
            self.assertFalse(other == question)

    def test_wrong_start(self):
        for start in (4, -1, True, "0", None, 1.0):
            self.raises_at(InvalidQuestion, 0, Question, MACHINE, start, (0, 0, 0, 0))
            self.raises_at(InvalidQuestion, 0, Question, MACHINE, start, None)

    def test_wrong_answers(self):
        for wrong in (-1, True, None, "0", 1.0, (0,)):
            self.raises_at(InvalidQuestion, 1, Question, MACHINE, 0, (wrong, 0, 0, wrong))
            self.raises_at(InvalidQuestion, 3, Question, MACHINE, 0, [0, 0, wrong, 0])
            self.raises_at(InvalidQuestion, 2, Question, MACHINE, 0, [0, wrong])
            self.raises_at(InvalidQuestion, 7, Question, MACHINE, 0, [0, 0, 0, 0, 0, 0, wrong])
        for answers in ((), (0, 0, 0), [0, 0, 0, 0, 0], "0000", None, 4, {0: 0}, range(4)):
            self.raises_at(InvalidQuestion, 5, Question, MACHINE, 0, answers)

    def test_answer(self):
        question = Question(MACHINE, 1, (10, 11, 12, 13))
        self.assertEqual(answer(question, ()), 11)
        self.assertEqual(answer(question, [1]), 13)
        self.assertEqual(answer(question=question, row=(1, 0)), 12)
        self.raises_at(InvalidRow, 1, answer, question, (0, 2))
        self.raises_at(InvalidRow, 0, answer, question, None)


class AlikeTest(Case):
    def test_parting_row(self):
        for question in random_questions(11, 60, commands=(1, 2)):
            n = question.machine.states
            for one in range(n):
                for other in range(n):
                    wanted = first_parting(question.machine, question.answers, one, other, n)
                    self.assertEqual(parting_row(question, one, other), wanted)

    def test_parting_row_by_name(self):
        question = Question(MACHINE, 0, (0, 1, 1, 0))
        self.assertEqual(parting_row(question=question, one=0, other=1), ())
        self.assertIsNone(parting_row(question, 0, 0))

    def test_least_question(self):
        for question in random_questions(12, 80, commands=(1, 2)):
            least = least_question(question)
            machine = least.machine
            self.assertEqual(least.start, 0)
            for length in range(5):
                for row in brute.rows(machine.commands, length):
                    self.assertEqual(answer(least, row), answer(question, row))
            for one in range(machine.states):
                for other in range(one):
                    self.assertIsNotNone(parting_row(least, one, other))
            self.assertEqual(reached(machine, 0), tuple(range(machine.states)))

    def test_least_states_are_numbered_as_their_first_rows_come(self):
        for question in random_questions(13, 80, commands=(2, 3), states=(3, 4, 5)):
            machine = least_question(question).machine
            met = []
            for length in range(machine.states):
                for row in brute.rows(machine.commands, length):
                    state = brute.run(machine, 0, row)
                    if state not in met:
                        met.append(state)
            self.assertEqual(met, list(range(machine.states)))

    def test_least_question_told(self):
        question = Question(Machine(2, [(3, 1), (1, 0), (2, 2), (0, 1)]), 3, (4, 9, 0, 4))
        least = least_question(question=question)
        self.assertTrue(least == Question(Machine(2, [(0, 1), (1, 0)]), 0, (4, 9)))
        same = least_question(Question(MACHINE, 2, (3, 3, 3, 3)))
        self.assertTrue(same == Question(Machine(2, [(0, 0)]), 0, (3,)))

    def test_unlike_row(self):
        random = Random(14)
        questions = list(random_questions(14, 60, commands=(2,), states=(1, 2, 3)))
        for one in questions:
            other = random.choice(questions)
            wanted = None
            for length in range(one.machine.states + other.machine.states):
                for row in brute.rows(2, length):
                    if wanted is None and answer(one, row) != answer(other, row):
                        wanted = row
            self.assertEqual(unlike_row(one, other), wanted)
            self.assertEqual(wanted is None, least_question(one) == least_question(other))

    def test_unlike_row_of_equal_answers(self):
        question = Question(MACHINE, 3, (0, 1, 1, 0))
        self.assertIsNone(unlike_row(one=question, other=least_question(question)))


class SurroundingsTest(Case):
    def test_surroundings(self):
        found = {True: 0, False: 0}
        for question in random_questions(15, 60, commands=(2,), states=(2, 3, 4)):
            least = least_question(question)
            for row, other in (((0, 1), (1, 0)), ((), (0, 0)), ((1,), (0,)), ([0, 1, 1], (1, 1, 0))):
                told = surroundings(question, row, other)
                same = effect(least.machine, row) == effect(least.machine, other)
                found[same] += 1
                self.assertEqual(told is None, same)
                if told is not None:
                    before, behind = told
                    self.is_all_tuples(told)
                    self.assertLess(max(len(before), len(behind)), least.machine.states)
                    one = answer(question, (*before, *row, *behind))
                    self.assertNotEqual(one, answer(question, (*before, *other, *behind)))
        self.assertGreater(min(found.values()), 10)

    def test_only_what_can_be_asked_counts(self):
        # The machine tells the rows apart, but only in a state that the start never reaches.
        machine = Machine(2, [(0, 0), (0, 1)])
        self.assertIsNone(surroundings(Question(machine, 0, (0, 1)), (0,), (1,)))
        self.assertIsNotNone(surroundings(question=Question(machine, 1, (0, 1)), row=(0,), other=(1,)))

    def test_wrong_rows(self):
        question = Question(MACHINE, 0, (0, 0, 0, 0))
        self.raises_at(InvalidRow, 2, surroundings, question, (0, 1, 2), (2,))
        self.raises_at(InvalidRow, 0, surroundings, question, (0, 1), (2,))
        self.raises_at(InvalidRow, 0, surroundings, question, "0", (0, 1, 5))
        self.raises_at(InvalidRow, 1, surroundings, question, (), [0, True])


if __name__ == "__main__":
    unittest.main()

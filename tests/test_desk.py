"""Points 78 and 79: desks."""

from random import Random

from endsandround.court import numbers
from endsandround.desk import Desk
from endsandround.errors import EndsError, InvalidCommand, InvalidMachine, Refused
from endsandround.logs import Log
from endsandround.machines import Machine
from tests import brute
from tests.checks import Case, Odd

TURNS = Machine(2, [(1, 0), (0, 2), (2, 1)])
TURNS_TEXT = "machine 2 3 1 0 0 2 2 1"


def command_of(machine):
    words = ["machine", machine.commands, machine.states, *[state for entry in machine.steps for state in entry]]
    return " ".join(map(str, words))


def told(desk):
    log = desk.log
    return None if log is None else (log.machine, log.start, log.entered(), log.row(), log.state(), len(log))


class DeskTest(Case):
    def test_a_talk(self):
        desk = Desk()
        self.assertIsNone(desk.log)
        for command, text in (
            (TURNS_TEXT, "ok"), ("numbers", "0 0 2"), ("row", "empty"), ("entered", "empty"), ("state", "0"),
            ("drifted", "no"), ("undo", "nothing"), ("enter 1", "ok"), ("enter 0", "ok"), ("enter 0", "ok"),
            ("row", "1 0 0"), ("state", "0"), ("matters 0 2 1 0", "never"), ("matters 0 1 0", "maybe"),
            ("matters 2 0", "never"), ("reorder 0 1 0", "ok"), ("row", "0 1 0"), ("entered", "1 0 0"), ("state", "2"),
            ("drifted", "yes"), ("undo", "ok"), ("drifted", "no"), ("reorder 0 2 1 0", "ok"), ("row", "0 0 1"),
            ("drifted", "no"), ("undo", "ok"), ("undo", "ok"), ("row", "1 0"), ("machine 1 1 0", "ok"), ("row", "empty"),
            ("numbers", "0 0 1"), ("machine 2 2 0 1 0 0", "ok"), ("numbers", "none"),
        ):
            self.assertEqual(desk.say(command), text, command)
        self.assertEqual(Desk().say(command=TURNS_TEXT), "ok")

    def test_as_a_log_does(self):
        random = Random(781)
        for machine in brute.random_machines(782, 25):
            desk, log = Desk(), Log(machine, 0)
            self.assertEqual(desk.say(command_of(machine)), "ok")
            self.assertIsInstance(desk.log, Log)
            self.assertEqual((desk.log.machine, desk.log.start), (machine, 0))
            triple = numbers(machine)
            self.assertEqual(desk.say("numbers"), "none" if triple is None else " ".join(map(str, triple)))
            for _ in range(30):
                self.some_command(random, desk, log)
                self.assertEqual(desk.say("row"), " ".join(map(str, log.row())) or "empty")
                self.assertEqual(desk.say("entered"), " ".join(map(str, log.entered())) or "empty")
                self.assertEqual(desk.say("state"), str(log.state()))
                self.assertEqual(desk.say("drifted"), "yes" if log.drifted() else "no")
                self.assertEqual(len(desk.log), len(log))

    def some_command(self, random, desk, log):
        kind, many = random.random(), len(log.row())
        if kind < 0.5 or many == 0:
            command = random.randrange(log.machine.commands)
            log.enter(command)
            self.assertEqual(desk.say(f"enter {command}"), "ok")
        elif kind < 0.8:
            at = random.randrange(many)
            size = random.randrange(1, min(4, many - at) + 1)
            places = random.sample(range(size), size)
            told_places = " ".join(map(str, places))
            never = log.never_matters(at, places)
            self.assertEqual(desk.say(f"matters {at} {told_places}"), "never" if never else "maybe")
            log.reorder(at, places)
            self.assertEqual(desk.say(f"reorder {at} {told_places}"), "ok")
        else:
            self.assertEqual(desk.say("undo"), "ok" if log.undo() else "nothing")

    def test_great_ones(self):
        desk = Desk()
        machine = Machine(2, brute.wheel(100))
        self.assertEqual(desk.say(command_of(machine)), "ok")
        self.assertEqual(desk.say("numbers"), "0 0 100")
        machine = Machine(10, [[(s + c) % 1000 for c in range(10)] for s in range(1000)])
        self.assertEqual(desk.say(command_of(machine)), "ok")
        self.assertEqual(desk.log.machine, machine)
        for _ in range(300):
            desk.say("enter 9")
        self.assertEqual(desk.say("state"), "700")
        self.assertEqual(desk.say("reorder 0 " + " ".join(map(str, range(299, -1, -1)))), "ok")


class WrongCommandsTest(Case):
    def refuses(self, desk, command):
        before = told(desk)
        with self.assertRaises(InvalidCommand) as caught:
            desk.say(command)
        self.assertIs(caught.exception.__class__, InvalidCommand)
        self.assertEqual(told(desk), before)

    def test_no_commands(self):
        full = Desk()
        for command in (TURNS_TEXT, "enter 1", "enter 0", "reorder 0 1 0"):
            full.say(command)
        for desk in (Desk(), full):
            log = desk.log
            for command in (
                None, 3, b"row", ["row"], ("row",), Odd(), True, "", " ", "  ", "row ", " row", "row\n", "\nrow", "ro\nw",
                "row\t", "row 1", "Row", "rows", "x", "numbers 1", "numbers  ", "state 0", "entered 0", "drifted no",
                "undo 1", "enter", "enter ", "enter 1 0", "enter x", "enter -1", "enter +1", "enter 01", "enter 00",
                "enter 10000", "enter 1\n", "enter 1.0", "enter  1", "enter\t1", "enter \u0661", "enter \u00b2", "reorder",
                "reorder 0", "reorder 0 ", "reorder  0 0", "reorder 0 x", "reorder x 0", "reorder 0 1 00", "matters",
                "matters 0", "matters 0 -1", "matters 0 1  0", "machine", "machine 1", "machine 1 1", "machine 1 1 ",
                "machine 0 1 0", "machine 1 0 0", "machine 0 0 0", "machine 0 0", "machine 2 3 1 0 0 2 2", "machine -1 1 0",
                "machine 2 3 1 0 0 2 2 1 0", "machine 01 1 0", "machine 1 1 00", "machine 1 1 x", "machine 1 1  0",
                "machine 1 1 0\n", "machine\n1 1 0", "machine 1 1 10000", "machine 10000 1 0", "Machine 1 1 0",
                "machine 1 1 -1", "machine 1 1 0 ", "state\nstate", "row row", "log", "reorder 0 0\n1",
            ):
                self.refuses(desk, command)
            self.assertIs(desk.log, log)

    def test_without_a_log(self):
        for command in ("numbers", "row", "entered", "state", "drifted", "undo", "enter 0", "reorder 0 0", "matters 0 0",
                        "enter 9999", "reorder 5 7 7"):
            desk = Desk()
            self.refuses(desk, command)
            self.assertIsNone(desk.log)

    def test_errors_of_the_functions_change_nothing(self):
        desk = Desk()
        self.raises_at(InvalidMachine, 2, desk.say, "machine 1 1 1")
        self.raises_at(InvalidMachine, 4, desk.say, "machine 2 3 0 1 2 0 1 3")
        self.raises_at(InvalidMachine, 3, desk.say, "machine 2 2 0 1 9999 0")
        self.assertIsNone(desk.log)
        for command in (TURNS_TEXT, "enter 1", "enter 0", "reorder 0 1 0", "enter 1"):
            desk.say(command)
        log, before = desk.log, told(desk)
        for error, at, command in (
            (InvalidMachine, 2, "machine 1 1 1"), (Refused, 0, "enter 2"), (Refused, 0, "enter 9999"),
            (Refused, 0, "reorder 3 0"), (Refused, 0, "reorder 9999 1"), (Refused, 1, "reorder 2 1 0"),
            (Refused, 1, "reorder 0 1"), (Refused, 1, "reorder 0 0 0"), (Refused, 1, "reorder 0 0 1 2 3"),
            (Refused, 0, "matters 3 0"), (Refused, 1, "matters 0 1"), (Refused, 1, "matters 1 2 1 0"),
        ):
            self.raises_at(error, at, desk.say, command)
            self.assertIs(desk.log, log)
            self.assertEqual(told(desk), before)

    def test_errors_of_the_numbers(self):
        machine = brute.beside(*[brute.wheel(step) for step in (2, 3, 5, 7, 11, 13)])
        desk = Desk()
        desk.say(command_of(machine))
        desk.say("enter 1")
        desk.say("enter 0")
        before = told(desk)
        self.raises_at(Refused, 5000, desk.say, "numbers")
        self.raises_at(Refused, 5000, desk.say, "matters 0 1 0")
        self.assertEqual(told(desk), before)

    def test_any_text_is_answered_or_refused(self):
        random = Random(791)
        desk = Desk()
        words = ("machine", "enter", "row", "undo", "reorder", "0", "1", "2", "", "matters", "state", "\n", "01", "numbers")
        for _ in range(3000):
            command = " ".join(random.choice(words) for _ in range(random.randrange(1, 7)))
            before = told(desk)
            try:
                self.assertIsInstance(desk.say(command), str)
            except EndsError:
                self.assertEqual(told(desk), before)

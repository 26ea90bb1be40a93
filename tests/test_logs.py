"""Points 75 and 76: logs."""

from random import Random

from endsandround.errors import EndsError, Refused
from endsandround.judge import harm
from endsandround.logs import Log
from endsandround.machines import Machine
from tests import brute
from tests.checks import WRONG_REORDERINGS, Case, Odd

TURNS = Machine(2, [(1, 0), (0, 2), (2, 1)])
BEYOND = brute.beside(*[brute.wheel(step) for step in (2, 3, 5, 7, 11, 13)])
WRONG = (None, "0", -1, -2, 1.0, True, False, (0,), [0], {}, Odd(), 10 ** 30)


class Own(Exception):
    """What some work raises."""


def told(log):
    """All that a log tells."""
    return log.entered(), log.row(), log.state(), log.way(), log.drifted(), len(log), log.machine, log.start


class SlowLog:
    """What a log should tell, by doing all deeds that are left anew."""

    def __init__(self, machine, start):
        self.machine = machine
        self.start = start
        self.deeds = []

    def told(self):
        entered, row = [], []
        for deed in self.deeds:
            if isinstance(deed, int):
                entered.append(deed)
                row.append(deed)
            else:
                at, reordering = deed
                end = at + len(reordering)
                row[at:end] = brute.moved(row[at:end], reordering)
        way = tuple(brute.run(self.machine, self.start, row[:many]) for many in range(len(row) + 1))
        drifted = way[-1] != brute.run(self.machine, self.start, entered)
        return tuple(entered), tuple(row), way[-1], way, drifted, len(self.deeds), self.machine, self.start


def some_deed(random, log, slow):
    """Does a deed, also with a wrong value, in both."""
    kind = random.random()
    many = len(log.row())
    if kind < 0.45 or many == 0:
        command = random.randrange(log.machine.commands)
        log.enter(command)
        slow.deeds.append(command)
    elif kind < 0.8:
        at = random.randrange(many)
        reordering = random.sample(range(n := random.randrange(1, many - at + 1)), n)
        log.reorder(at, random.choice((list, tuple))(reordering))
        slow.deeds.append((at, tuple(reordering)))
    else:
        assert log.undo() is bool(slow.deeds)
        slow.deeds = slow.deeds[:-1]


class LogTest(Case):
    def test_a_new_one(self):
        log = Log(machine=TURNS, start=1)
        self.assertEqual((log.machine, log.start), (TURNS, 1))
        self.assertEqual((log.entered(), log.row(), log.state(), log.way(), len(log)), ((), (), 1, (1,), 0))
        self.assertIs(log.drifted(), False)
        self.assertIs(log.undo(), False)
        for start in (*WRONG, 3):
            self.raises_at(Refused, 0, Log, TURNS, start)

    def test_deeds(self):
        log = Log(TURNS, 0)
        for command in (1, 0, 0):
            self.assertIsNone(log.enter(command=command))
        self.assertEqual(told(log), ((1, 0, 0), (1, 0, 0), 0, (0, 0, 1, 0), False, 3, TURNS, 0))
        self.assertIsNone(log.reorder(at=0, reordering=[1, 0]))
        self.assertEqual(told(log), ((1, 0, 0), (0, 1, 0), 2, (0, 1, 2, 2), True, 4, TURNS, 0))
        self.assertIs(log.undo(), True)
        self.assertEqual(told(log), ((1, 0, 0), (1, 0, 0), 0, (0, 0, 1, 0), False, 3, TURNS, 0))

    def test_as_by_doing_all_anew(self):
        random = Random(751)
        for machine in brute.random_machines(752, 40):
            start = random.randrange(machine.states)
            log, slow = Log(machine, start), SlowLog(machine, start)
            for _ in range(40):
                some_deed(random, log, slow)
                self.assertEqual(told(log), slow.told())
                self.is_all_tuples(told(log)[:4])
            while slow.deeds:
                slow.deeds.pop()
                self.assertIs(log.undo(), True)
                self.assertEqual(told(log), slow.told())
            self.assertIs(log.undo(), False)

    def test_refused_deeds_change_nothing(self):
        log = Log(TURNS, 0)
        for value in (*WRONG, 2):
            self.raises_at(Refused, 0, log.enter, value)
        for value in (*WRONG, 0, 1):
            self.raises_at(Refused, 0, log.reorder, value, (0,))
            self.raises_at(Refused, 0, log.never_matters, value, None)
        for command in (1, 0, 1, 1):
            log.enter(command)
        log.reorder(1, (1, 2, 0))
        before = told(log)
        for value in (*WRONG, 4, 5):
            for function in (log.reorder, log.never_matters):
                self.raises_at(Refused, 0, function, value, (0,))
                self.raises_at(Refused, 0, function, value, None)
        for value in (*[value for value, _ in WRONG_REORDERINGS], (), [], Odd(), (0, 1, 2, 3), range(2), (Odd(),)):
            for function in (log.reorder, log.never_matters):
                self.raises_at(Refused, 1, function, 1, value)
        self.raises_at(Refused, 1, log.reorder, 3, (1, 0))
        self.assertEqual(told(log), before)
        log.reorder(3, (0,))
        log.reorder(0, (3, 2, 1, 0))
        self.assertEqual(len(log), 7)

    def test_what_was_handed_in_and_out_is_kept(self):
        log = Log(TURNS, 0)
        log.enter(0)
        log.enter(1)
        row, reordering = log.row(), [1, 0]
        log.reorder(0, reordering)
        reordering[0] = 0
        self.assertEqual((row, log.row()), ((0, 1), (1, 0)))
        log.undo()
        self.assertEqual((row, log.row()), ((0, 1), (0, 1)))
        self.assertFalse(log == Log(TURNS, 0) or log == 0 or log == (0, 1))

    def test_long_logs(self):
        random = Random(753)
        machine = Machine(2, brute.wheel(5))
        log = Log(machine, 0)
        entered = [random.randrange(2) for _ in range(10000)]
        for command in entered:
            log.enter(command)
        self.assertEqual(log.row(), tuple(entered))
        log.reorder(0, tuple(range(9999, -1, -1)))
        self.assertEqual(log.row(), tuple(entered[::-1]))
        self.assertEqual(log.entered(), tuple(entered))
        self.assertEqual(len(log.way()), 10001)
        self.assertEqual(log.state(), brute.run(machine, 0, entered[::-1]))
        for _ in range(10001):
            self.assertIs(log.undo(), True)
        self.assertEqual(told(log), told(Log(machine, 0)))


class NeverMattersTest(Case):
    def test_as_the_judge_says(self):
        random = Random(761)
        for machine in (*brute.near_machines(762, 40), TURNS):
            log = Log(machine, 0)
            for _ in range(6):
                log.enter(random.randrange(machine.commands))
            before = told(log)
            for _ in range(8):
                at = random.randrange(6)
                many = random.randrange(1, min(4, 6 - at) + 1)
                reordering = random.sample(range(many), many)
                wanted = brute.is_harmless(machine, reordering)
                self.assertIs(log.never_matters(at, reordering), wanted)
            self.assertEqual(told(log), before)

    def test_errors_of_the_judge(self):
        log = Log(BEYOND, 0)
        log.enter(0)
        log.enter(1)
        self.raises_at(Refused, 5000, harm, BEYOND, (1, 0))
        self.raises_at(Refused, 5000, log.never_matters, 0, (1, 0))
        self.raises_at(Refused, 1, log.never_matters, 1, (1, 0))
        machine = Machine(2, brute.short_memory(5, 25))
        reordering = tuple((at + 11) % 22 for at in range(22))
        self.raises_at(Refused, 22, harm, machine, reordering)
        log = Log(machine, 0)
        for _ in range(24):
            log.enter(0)
        self.raises_at(Refused, 22, log.never_matters, 1, reordering)

    def test_no_drift_by_what_never_matters(self):
        random = Random(763)
        drifts = 0
        for machine in (*brute.near_machines(764, 60), TURNS, Machine(2, brute.wheel(3))):
            log = Log(machine, random.randrange(machine.states))
            for _ in range(30):
                if random.random() < 0.5 or not log.row():
                    log.enter(random.randrange(machine.commands))
                else:
                    at = random.randrange(len(log.row()))
                    many = random.randrange(1, min(5, len(log.row()) - at) + 1)
                    reordering = random.sample(range(many), many)
                    if log.never_matters(at, reordering):
                        log.reorder(at, reordering)
                self.assertIs(log.drifted(), False)
            for _ in range(10):
                at = random.randrange(len(log.row()) - 1)
                log.reorder(at, (1, 0))
                if log.drifted():
                    drifts += 1
                else:
                    log.enter(random.randrange(machine.commands))
                    self.assertIs(log.drifted(), False)
        self.assertGreater(drifts, 20)

    def test_a_command_can_end_a_drift(self):
        log = Log(Machine(3, [(0, 1, 0), (0, 1, 0)]), 0)
        log.enter(0)
        log.enter(1)
        log.reorder(0, (1, 0))
        self.assertIs(log.drifted(), True)
        log.enter(2)
        self.assertIs(log.drifted(), False)


class WithinTest(Case):
    def test_takes_all_back(self):
        random = Random(765)
        for machine in brute.random_machines(766, 20):
            log, slow = Log(machine, 0), SlowLog(machine, 0)
            for _ in range(random.randrange(10)):
                some_deed(random, log, slow)
            before = told(log)
            again = SlowLog(machine, 0)
            again.deeds = list(slow.deeds)

            def work(within):
                self.assertIs(within, log)
                for _ in range(15):
                    if len(within) > before[5]:
                        some_deed(random, within, again)
                    else:
                        within.enter(0)
                        again.deeds.append(0)
                    self.assertEqual(told(within), again.told())
                return [within.row()]

            found = log.within(work)
            self.assertEqual(found, [again.told()[1]])
            self.assertEqual(told(log), before)
            while slow.deeds:
                slow.deeds.pop()
                self.assertIs(log.undo(), True)
                self.assertEqual(told(log), slow.told())

    def test_passes_on_errors(self):
        log = Log(TURNS, 0)
        log.enter(1)
        log.enter(0)
        before = told(log)
        for error in (Own, KeyError, EndsError, KeyboardInterrupt):
            def work(within):
                within.enter(0)
                within.reorder(0, (2, 1, 0))
                raise error("so")

            with self.assertRaises(error):
                log.within(work)
            self.assertEqual(told(log), before)
        self.raises_at(Refused, 0, log.within, lambda within: (within.enter(1), within.enter(2)))
        self.assertEqual(told(log), before)

    def test_within_one_another(self):
        log = Log(TURNS, 0)
        log.enter(1)

        def inner(within):
            within.reorder(0, (1, 0))
            return within.row()

        def outer(within):
            within.enter(0)
            first = within.within(work=inner)
            return first, within.row(), len(within)

        self.assertEqual(log.within(work=outer), ((0, 1), (1, 0), 2))
        self.assertEqual(told(log), ((1,), (1,), 0, (0, 0), False, 1, TURNS, 0))
        self.assertIsNone(log.within(lambda within: None))

    def test_may_take_back_what_it_did(self):
        log = Log(TURNS, 0)
        log.enter(1)
        self.assertEqual(log.within(lambda within: (within.enter(0), within.undo(), within.enter(1), len(within))),
                         (None, True, None, 2))
        self.assertEqual(log.row(), (1,))

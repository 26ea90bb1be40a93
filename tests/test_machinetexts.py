"""Point 10, second part: texts of machines."""

import unittest

from endsandround.errors import InvalidText
from endsandround.machinetexts import machine_text, read_machine
from endsandround.machines import Machine
from tests import brute
from tests.checks import Case


class TextTest(Case):
    def test_machine_text(self):
        machine = Machine(2, [(0, 1), (1, 2), (2, 0)])
        self.assertEqual(machine_text(machine), "machine 2 3\n0 1\n1 2\n2 0")
        self.assertEqual(machine_text(machine=Machine(1, [(0,)])), "machine 1 1\n0")

    def test_there_and_back(self):
        for machine in brute.random_machines(21, 40, commands=(1, 2, 3, 5), states=(1, 4, 10, 12)):
            self.assertTrue(read_machine(machine_text(machine)) == machine)

    def test_numbers_of_four_digits(self):
        machine = Machine(1, [(9998,)] * 9999)
        self.assertTrue(read_machine(text=machine_text(machine)) == machine)

    def test_what_is_no_string(self):
        for text in (None, 5, b"machine 1 1\n0", ["machine 1 1", "0"], Machine(1, [(0,)])):
            self.raises_at(InvalidText, 0, read_machine, text)

    def test_wrong_first_line(self):
        wrong = (
            "", "machine", "machine 1", "machine 1 1 1", "Machine 1 1", "machine  1 1", " machine 1 1", "machine 1 1 ",
            "machine 0 1", "machine 1 0", "machine 01 1", "machine 1 01", "machine 1 10000", "machine 00001 1",
            "machine -1 1", "machine +1 1", "machine 1.0 1", "machine\t1 1", "machine x 1", "machine \u00b2 1",
            "machine 1 \u0661", "machine 1 1\r", "1 1", "machine 1_0 1",
        )
        for line in wrong:
            self.raises_at(InvalidText, 0, read_machine, line)
            self.raises_at(InvalidText, 0, read_machine, line + "\n0")

    def test_wrong_states(self):
        wrong = ("", "0", "0 0 0", "0  0", " 0 0", "0 0 ", "0 2", "00 0", "0 01", "0 -1", "x 0", "0\t0", "0 \u0661", "0 0\r")
        for line in wrong:
            self.raises_at(InvalidText, 1, read_machine, f"machine 2 2\n{line}\n0 1")
            self.raises_at(InvalidText, 2, read_machine, f"machine 2 2\n0 1\n{line}")
            self.raises_at(InvalidText, 1, read_machine, f"machine 2 2\n{line}")

    def test_missing_lines(self):
        self.raises_at(InvalidText, 1, read_machine, "machine 2 2")
        self.raises_at(InvalidText, 2, read_machine, "machine 2 2\n0 1")
        self.raises_at(InvalidText, 1, read_machine, "machine 9999 9999")

    def test_lines_too_many(self):
        self.raises_at(InvalidText, 2, read_machine, "machine 1 1\n0\n")
        self.raises_at(InvalidText, 2, read_machine, "machine 1 1\n0\n0")
        self.raises_at(InvalidText, 3, read_machine, "machine 1 2\n0\n1\n\n\n")


if __name__ == "__main__":
    unittest.main()

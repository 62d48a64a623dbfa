import re
import unittest

from helpers import (A2, COUNTED_TEAMS, COUNTS, DEEP_LIST, DEEP_TUPLE, LINE, MOST, ODD_VALUES, R2, Case, bent_ring,
                     machines, small_machines)

from othersknow.errors import AlphabetsDiffer, InvalidText, TooMany
from othersknow.machines import Machine
from othersknow.teams import Team
from othersknow.texts import machine_text, read_machine, read_report, read_team, report_text, team_text

SIGNS = " 0123456789,/-+_.abcyzA\n\t"
NUMBER = "(0|[1-9][0-9]{0,30})"
OTHER_VALUES = [*ODD_VALUES, ("ab 1,0 0,1",), ["ab 1,0 0,1"], ["a", "0"], ("a", [[0]]), [[0]], DEEP_LIST, DEEP_TUPLE]
LARGE = Machine("xyz", [[(at + 1) % 24, (at * 5) % 24, 23 - at] for at in range(24)])


def is_machine_text(text):
    """Whether a text is one of a machine, by the words of the document."""
    if not re.fullmatch(f"[a-z]+( {NUMBER}(,{NUMBER})*)+", text) or "\n" in text:
        return False
    alphabet, *words = text.split(" ")
    rows = [[int(goal) for goal in word.split(",")] for word in words]
    return (alphabet == "".join(sorted(set(alphabet))) and len(alphabet) <= 3 and len(rows) <= 24
            and all(len(row) == len(alphabet) and max(row) < len(rows) for row in rows))


def bent(text):
    """The texts that differ from a text in one place."""
    found = []
    for at in range(len(text) + 1):
        found.append(text[:at] + text[at + 1:])
        for sign in SIGNS:
            found.append(text[:at] + sign + text[at:])
            found.append(text[:at] + sign + text[at + 1:])
    return [other for other in found if other != text]


class MachineTexts(Case):
    def test_written_out(self):
        self.assertEqual(machine_text(Machine.counter("ab", 2, letter="a")), "ab 1,0 0,1")
        self.assertEqual(machine_text(machine=Machine("q", [[0]])), "q 0")
        self.assertEqual(machine_text(LINE), "a 1 2 3 4 4")
        self.assertEqual(machine_text(Machine("akz", [[0, 1, 0], [1, 0, 1]])), "akz 0,1,0 1,0,1")
        self.assertEqual(machine_text(Machine.ring("a", 12)), "a 1 2 3 4 5 6 7 8 9 10 11 0")
        self.assertEqual(read_machine(text="ab 1,0 0,1"), Machine.counter("ab", 2, letter="a"))

    def test_there_and_back(self):
        for machine in [*small_machines(), *machines("b", 3), LARGE, bent_ring(24), Machine.ring("abc", 24)]:
            text = machine_text(machine)
            self.assertTrue(is_machine_text(text))
            self.assertEqual(read_machine(text), machine)
            self.assertEqual(machine_text(read_machine(text)), text)

    def test_texts_bent_in_one_place(self):
        for machine in (A2, R2, LINE, Machine("abc", [[0, 1, 0], [1, 0, 1]]), Machine.ring("a", 12), Machine("z", [[0]])):
            for text in bent(machine_text(machine)):
                if is_machine_text(text):
                    self.assertEqual(machine_text(read_machine(text)), text)
                else:
                    with self.subTest(text):
                        self.fails(InvalidText, read_machine, text)

    def test_wrong_texts(self):
        for text in ("", " ", "a", "ab", "a ", " a 0", "a 0 ", "a  0", "a 00", "a 01 0", "a +0", "a -0", "a 1", "a 0,0", "ab 0",
                     "ab 0,", "ab ,0", "ab 0,,0", "ab 0, 0", "ba 0,0", "aa 0,0", "abcd 0,0,0,0", "A 0", "a 0\n", "\na 0", "a\n0",
                     "a 0 / a 0", "a x", "a 0x0", "a 1_0", "a 24" + " 0" * 24, "a" + " 0" * 25, "0", "0 0", "1 0", " 0",
                     "a \u0660", "a \uff10", "a \u00b2", "\u00e4 0", "a 0" + "0" * 1990, "a " + "9" * 32, "a " + "1" * 5000,
                     "a 0 2", "a None", "a -", "a 0.", "ab 0,0;0,0", "ab 0 0", "ab (0,0)", "a\t0", "a 0\r", "a 0\t"):
            with self.subTest(text):
                self.assertFalse(is_machine_text(text))
                self.fails(InvalidText, read_machine, text)

    def test_the_numbers_of_states(self):
        self.assertEqual(read_machine("a" + " 0" * 24).states, 24)
        self.assertEqual(read_machine("a" + " 23" * 24).moves(), [[23]] * 24)
        self.fails(InvalidText, read_machine, "a" + " 23" * 23)

    def test_values_of_every_kind(self):
        for value in OTHER_VALUES:
            self.fails(InvalidText, read_machine, value)
            self.fails(InvalidText, read_team, value)


class TeamTexts(Case):
    def test_written_out(self):
        self.assertEqual(team_text(COUNTS), "ab 1,0 0,1 / ab 0,1 1,0")
        self.assertEqual(team_text(team=Team([A2])), "ab 1,0 0,1")
        self.assertEqual(read_team(text="ab 1,0 0,1 / ab 0,1 1,0"), COUNTS)
        self.assertEqual(read_team("a 0 / a 0 / a 0"), Team([Machine("a", [[0]])] * 3))

    def test_there_and_back(self):
        for team in [*COUNTED_TEAMS, Team([LARGE]), Team([LARGE] * 6)]:
            text = team_text(team)
            self.assertEqual(text, " / ".join(machine_text(machine) for machine in team.machines()))
            self.assertEqual(read_team(text), team)
            self.assertLessEqual(len(text), 2000)

    def test_texts_bent_in_one_place(self):
        for team in (COUNTS, Team([LINE, Machine("a", [[0]])])):
            for text in bent(team_text(team)):
                parts = text.split(" / ")
                if not all(is_machine_text(part) for part in parts):
                    with self.subTest(text):
                        self.fails(InvalidText, read_team, text)
                elif len({part.split(" ")[0] for part in parts}) > 1:
                    self.fails(AlphabetsDiffer, read_team, text)
                else:
                    self.assertEqual(team_text(read_team(text)), text)

    def test_wrong_texts(self):
        for text in ("", " / ", "a 0 / ", " / a 0", "a 0 / / a 0", "a 0 /  / a 0", "a 0/a 0", "a 0 /a 0", "a 0/ a 0", "a 0  / a 0",
                     "a 0 /  a 0", "a 0 / a", "a 0 \n/ a 0", "a 0 / a 0\n", "a 0 // a 0", "a 0 / a 0 /", "a 1 / a 0", "/", " "):
            with self.subTest(text):
                self.fails(InvalidText, read_team, text)

    def test_errors_of_team(self):
        self.assertEqual(self.fails(TooMany, read_team, " / ".join(["a 0"] * 7)).most, 6)
        self.fails(AlphabetsDiffer, read_team, "a 0 / b 0")
        self.assertEqual(self.fails(TooMany, read_team, team_text(Team([Machine.ring("a", 5)])) + " / "
                                    + machine_text(Machine.ring("a", 6))).most, 24)
        # The text is looked at first, then the number of machines, then their alphabets.
        self.fails(InvalidText, read_team, " / ".join(["a 0"] * 7 + ["a 1"]))
        self.fails(InvalidText, read_team, "a 0 / b 0 / b")
        self.assertEqual(self.fails(TooMany, read_team, " / ".join(["a 0", "b 0"] * 4)).most, 6)


class ReportTexts(Case):
    def test_written_out(self):
        self.assertEqual(report_text((1, None)), "1,-")
        self.assertEqual(report_text(report=(None,)), "-")
        self.assertEqual(report_text((0, 10, None, 10 ** 30)), f"0,10,-,{10 ** 30}")
        self.assertEqual(read_report(text="1,-"), (1, None))
        self.assertEqual(read_report("-"), (None,))
        self.assertEqual(read_report("0"), (0,))
        self.assertIsInstance(read_report("0,1"), tuple)

    def test_there_and_back(self):
        for report in ((0,), (None,), (0, 0), (None, None), (1, None, 2), (None, 23, 0, 9, None, 10), (MOST, None),
                       (10 ** 31 - 1,), (7,) * 400, (None,) * 400):
            self.assertEqual(read_report(report_text(report)), report)

    def test_texts_bent_in_one_place(self):
        for report in ((0,), (None,), (1, None), (10, 0, None), (None, 123)):
            for text in bent(report_text(report)):
                if "\n" not in text and re.fullmatch(f"({NUMBER}|-)(,({NUMBER}|-))*", text):
                    self.assertEqual(report_text(read_report(text)), text)
                else:
                    with self.subTest(text):
                        self.fails(InvalidText, read_report, text)

    def test_wrong_texts(self):
        for text in ("", ",", "1,", ",1", "1,,1", "1, -", " 1", "1 ", "01", "00", "-1", "+1", "--", "-,--", "1;2", "None", "1,None",
                     "a", "\u0661", "1.0", "1_0", "1" * 32, "9" * 32, "1," + "0" * 2, "-\n", "1,-\n", "(1,-)", "1" * 5000):
            with self.subTest(text):
                self.fails(InvalidText, read_report, text)
        self.assertEqual(read_report("9" * 31), (10 ** 31 - 1,))

    def test_values_of_every_kind(self):
        for value in (None, True, False, 0, 1, MOST, (), [], (1, None), [1, None], ("1,-",), ["1,-"], DEEP_LIST, DEEP_TUPLE):
            self.fails(InvalidText, read_report, value)


if __name__ == "__main__":
    unittest.main()

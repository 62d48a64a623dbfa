import re
import unittest

from helpers import COUNTED_TEAMS, COUNTS, DEEP_LIST, DEEP_TUPLE, Case, bent_ring
from test_roster import ONE, TWO, WIDE, filled, told, whole
from test_texts import LARGE, bent, is_machine_text

from othersknow.errors import NothingLeft, ParseError
from othersknow.pages import read_roster, write_roster
from othersknow.roster import Roster
from othersknow.teams import Team
from othersknow.texts import team_text

NAMES = "abcdefghijklm"
PAGE = f"one {ONE}\ntwo {TWO}\nring {WIDE}\n"


def of_teams(teams):
    """A roster with some teams, and its page."""
    roster = Roster(limit=12)
    for name, team in zip(NAMES, teams):
        roster.apply(("team", name, team_text(team)))
    return roster, "".join(f"{name} {team_text(team)}\n" for name, team in zip(NAMES, teams))


def is_line(line):
    """Whether a line is of the form, where its team has at most two machines with few states."""
    name, space, text = line.partition(" ")
    parts = text.split(" / ")
    return (re.fullmatch("[a-z]{1,6}", name) is not None and all(is_machine_text(part) for part in parts)
            and len({part.split(" ")[0] for part in parts}) == 1)


def first_wrong(text):
    """The index of the first line that is not right, or None, by the words of the document."""
    names = []
    pieces = text.split("\n")
    for index, line in enumerate(pieces[:-1]):
        if not is_line(line) or line.split(" ")[0] in names or index == 12:
            return index
        names.append(line.split(" ")[0])
    return None if pieces[-1] == "" else len(pieces) - 1


class Pages(Case):
    def wrong(self, line, text):
        caught = self.fails(ParseError, read_roster, text)
        self.assertEqual((caught.line, caught.line.__class__), (line, int), text)

    def test_written_out(self):
        self.assertEqual(write_roster(filled()), PAGE)
        self.assertEqual(write_roster(roster=filled()), "one ab 1,0 0,1\ntwo ab 1,0 0,1 / ab 0,1 1,0\nring a 1 2 3 4 0\n")
        self.assertEqual(read_roster(text=PAGE), filled())

    def test_there_and_back(self):
        for many in range(13):
            for first in (0, 7, 13):
                roster, page = of_teams(COUNTED_TEAMS[first:first + many])
                self.assertEqual(write_roster(roster), page)
                made = read_roster(page)
                self.assertTrue(made == roster)
                self.assertEqual(write_roster(made), page)
        roster, page = of_teams([Team([LARGE] * 6), Team([bent_ring(24)]), COUNTS])
        self.assertTrue(read_roster(page) == roster)

    def test_the_empty_page(self):
        self.assertEqual(write_roster(Roster()), "")
        self.assertEqual(told(read_roster("")), ([], [], 0, "Roster(0 teams)", (0, 0), False, 12, [], 0))

    def test_what_is_read_has_no_steps_and_no_tables(self):
        roster = filled()
        roster.ticks("one")
        made = read_roster(write_roster(roster))
        self.assertEqual((made.limit, made.history(), made.kept(), made.computed, made.busy), (12, (0, 0), [], 0, False))
        self.assertEqual(made.names(), ["one", "two", "ring"])
        self.fails(NothingLeft, made.undo)
        self.fails(NothingLeft, made.redo)
        made.apply(("drop", "one"))
        made.undo()
        self.assertEqual((made.names(), made.history()), (["one", "two", "ring"], (0, 1)))

    def test_the_roster_stays_as_it_is(self):
        roster = filled(limit=4)
        roster.ticks("two")
        roster.undo()
        before = whole(roster)
        self.assertEqual(write_roster(roster), f"one {ONE}\ntwo {TWO}\n")
        self.assertEqual(whole(roster), before)

    def test_the_order_of_the_teams(self):
        roster = filled()
        roster.apply(("rename", "one", "z"), ("drop", "two"), ("team", "a", ONE))
        self.assertEqual(write_roster(roster), f"z {ONE}\nring {WIDE}\na {ONE}\n")
        self.assertEqual(read_roster(write_roster(roster)).names(), ["z", "ring", "a"])

    def test_pages_bent_in_one_place(self):
        page = f"a {TWO}\nbc a 0\ndefghi a 1 0\n"
        self.assertIsNone(first_wrong(page))
        for text in bent(page):
            index = first_wrong(text)
            with self.subTest(text):
                if index is None:
                    self.assertEqual(write_roster(read_roster(text)), text)
                else:
                    self.wrong(index, text)

    def test_lines_that_are_wrong(self):
        wrong = ["", " ", "x", "x ", "x a", " a 0", "X a 0", "x1 a 0", "abcdefg a 0", "x  a 0", "x a 0 ", "x a 1", "x a 0 /",
                 "x a 0 / b 0", "x " + " / ".join(["a 0"] * 7), "x a 1 2 3 4 0 / a 1 2 3 4 5 0", "one a 0", "two " + TWO, "x\ta 0",
                 "x a 0\r", "x a 00", "x: a 0", "-", "x ab 0", "ring"]
        lines = PAGE.split("\n")[:-1]
        for line in wrong:
            for at in range(4):
                text = "".join(f"{row}\n" for row in [*lines[:at], line, *lines[at:]])
                # A name is put in twice where it stands the second time.
                place = {"one a 0": max(at, 1), "two " + TWO: max(at, 2)}.get(line, at)
                with self.subTest(line, at=at):
                    self.wrong(place, text)

    def test_a_line_put_in_twice(self):
        lines = PAGE.split("\n")[:-1]
        for at in range(3):
            for place in range(4):
                rows = [*lines[:place], lines[at], *lines[place:]]
                second = max(index for index, row in enumerate(rows) if row == lines[at])
                self.wrong(second, "".join(f"{row}\n" for row in rows))

    def test_without_the_last_line_feed(self):
        self.wrong(2, PAGE[:-1])
        self.wrong(0, "a a 0")
        self.wrong(0, "a")
        self.wrong(0, " ")
        self.wrong(1, "a a 0\nb a 0")
        # An earlier line is wrong first.
        self.wrong(0, "a a 1\nb a 0")
        self.wrong(1, "a a 0\n\nb a 0")

    def test_line_feeds_alone(self):
        self.wrong(0, "\n")
        self.wrong(0, "\n\n")
        self.wrong(0, "\na a 0\n")
        self.wrong(1, "a a 0\n\n")

    def test_twelve_teams_and_thirteen(self):
        lines = [f"{name} a 0\n" for name in NAMES]
        self.assertEqual(len(lines), 13)
        self.assertEqual(len(read_roster("".join(lines[:12]))), 12)
        self.wrong(12, "".join(lines))
        self.wrong(12, "".join(lines) + "n a 0\n")
        self.wrong(12, "".join(lines)[:-1])
        self.wrong(12, "".join(lines[:12]) + "\n")
        self.wrong(3, "".join([*lines[:3], "\n", *lines[3:]]))
        self.wrong(11, "".join([*lines[:11], "l a 1\n", *lines[12:]]))
        self.wrong(12, "".join([*lines[:12], "a a 0\n"]))

    def test_values_that_are_no_texts(self):
        for value in (None, 0, 1, True, False, (), [], (PAGE,), [PAGE], ["a a 0\n"], DEEP_LIST, DEEP_TUPLE):
            self.wrong(0, value)

    def test_beyond_the_limit_of_the_roster(self):
        roster = filled()
        roster.apply(("drop", "one"), ("drop", "two"))
        roster.limit = 1
        roster.undo()
        self.assertEqual(write_roster(roster), PAGE)


if __name__ == "__main__":
    unittest.main()
